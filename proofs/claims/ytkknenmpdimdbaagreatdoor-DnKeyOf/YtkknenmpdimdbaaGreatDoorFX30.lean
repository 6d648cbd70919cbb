import Derived.Test.YtkknenmpdimdbaaGreatDoorFX29
import Derived.Test.YtkknenmpdimdbaaGreatDoorFX28
namespace Go.Proofs.YtkknenmpdimdbaaGreatDoor
open Go.RowKit Go.Shelf
open BerMath (Hd HR num hAt wAt El TR elEnd endE one andThen kids)
open BtSeq (SeqP postP range_p region_round postP_shut)
attribute [local go_sem] Oper.semAt_some
set_option linter.unusedVariables false
def tr (s : ByteArray) : TR := one s.data.toList (kids s.data.toList s.size) 20 s.size 0 1
abbrev flt (f : Nat × Nat) : List PanicEntry := [{ v := .iface 238 (.agg #[.int .i64 (f.1 : Int), .int .i64 (f.2 : Int)]), recovered := false }]
set_option maxRecDepth 100000 in
set_option maxHeartbeats 2000000 in
theorem elements1_any (n : Nat) (s : ByteArray) (hm : s.size ≤ 281474976710656) (sb : Nat) (w : World) (hsb : w.heap[sb]? = some (.cells #[.string s] 9 (0, 0))) :
  SeqP n Tryz.prog 179 #[.pointer (some ⟨sb, 0, none⟩)] encE KW (tr s).1 ((tr s).2.map flt) w := fun l J Jx W hW hJ hJx hY h0 => by
 have hbW : W.heap[sb]? = some (.cells #[.string s] 9 (0, 0)) := (hW.block sb (Array.getElem?_eq_some_iff.1 hsb).1).trans hsb
 have cS : W.cell? ⟨sb, 0, none⟩ = some (.string s) := by simp [World.cell?, hbW]
 have hA : ∀ W', Hid (Calls Tryz.prog 181 #[.string s] W' fun r w' => r = .returned (strV s s.size 20) ∧ Below W'.heap.size W' w') := fun W' => all_any s W'
 have hK : ∀ w1, Below W.heap.size W w1 → Hid (CallsIn Fence.wide (n - 1) Tryz.prog 180 #[strV s (s.size : Int) 20, .int .i64 0, .int .i64 1, .func (.yield l) #[] #[]] w1 (WkQ J Jx [] (tr s) w1)) := fun w1 hb1 => by
  have := walk_any s hm l W.heap.size J Jx KW (tr s).1 hJ hJx (fun _ _ h => h) (fun pre x W1 hj hp => yield_any 0 (YieldAt.mono (hY pre x W1 hj hp) (fun e W' h => h.2))) s.size 20 s.size 0 1 [] w1 (Nat.le_refl _) (Nat.zero_le _) (by omega) (by decide) (own_below hJ h0 hb1) (List.prefix_refl _)
  exact callsIn_wide.2 (callsIn_wide.1 this)
 have hdd : ∀ k : Nat, (Fence.wide.depth.isSome = true → 1 ≤ k) := fun k h => (by cases h)
 clear hY h0 hW hsb hbW
 refine callsIn_of_wp Tryz.func179 rfl trivial ?_ rfl
 simp only [Tryz.ntmps179, List.size_toArray, List.length_cons, List.length_nil, Nat.reduceAdd, Nat.reduceSub, Array.replicate_succ, Array.replicate_zero, List.push_toArray, List.append_toArray, List.nil_append, List.cons_append]
 gi_wp2_with (first
  | (refine ⟨trivial, hdd _, ?_⟩; gi_at_call 181; refine (callsIn_wide.2 (hA _).out).mono ?_; rintro r w1 ⟨rfl, hb1⟩)
  | (refine ⟨trivial, hdd _, ?_⟩; gi_at_call 180; refine (hK w1 hb1).out.mono ?_; rintro r w2 (⟨g1, rfl, g2, g3⟩ | ⟨ys, z, g1, rfl, g2⟩ | ⟨f, g1, rfl, g2⟩)))
 ·go_end0
  exact Or.inl ⟨⟨_, rfl⟩, by rw [g1]; rfl, g2⟩
 ·go_end0
  exact Or.inr (Or.inl ⟨⟨_, rfl⟩, ys, g1, g2⟩)
 ·exact ⟨rfl, Or.inr (Or.inr ⟨flt f, by rw [g1]; rfl, rfl, g2⟩)⟩
theorem elements_any (s : ByteArray) (w : World) : Calls Tryz.prog 173 #[.string s] w fun r w' => r = .returned (.func (.func 179) #[] #[.pointer (some ⟨w.heap.size, 0, none⟩)]) ∧ w' = w.alloc (.cells #[.string s] 9) := by
 have hmf : ∀ (fn : Fn) (first cap : Array Value) (w : World), (Instr.makeFunc fn first cap).run Tryz.prog w = .ok (.func fn first cap) w := fun _ _ _ _ => rfl
 go_enter Tryz.func173, Tryz.ntmps173
 go_wp2_with fail
 go_ret
 exact ⟨rfl, rfl⟩
theorem kw_put (B : Nat) (W : World) (l : Nat) (o o' : Obj) (hl : W.heap[l]? = some o) (ho : o.isCells = false) : KW W (W.putObj l o') :=
 ⟨by simp [World.putObj], fun k cs t _ hk => by
  rw [World.putObj_heap_other (fun e => by rw [← e, hk] at hl; injection hl with hl; subst hl; cases ho)]
  exact hk⟩
theorem tr_len (s : ByteArray) : (tr s).1.length ≤ 2147483650 ∧ ∀ x ∈ (tr s).1, elEnd x ≤ s.size ∧ 2 ≤ x.2.1.size ∧ x.2.1.size ≤ 6 ∧ x.2.1.len < 4294967296 ∧ x.2.1.cls ≤ 3 ∧ x.2.1.tag ≤ 30 ∧ x.2.2 ≤ 64 := by
 unfold tr
 cases hw : wAt s.data.toList 0 s.size with
 | ok x =>
  obtain ⟨k1, k2, k3, k4, k5, k6⟩ := BerMath.wAt_ok _ _ _ _ hw
  by_cases hm : x.made = true
  ·rw [BerMath.one_made _ _ _ _ _ _ x (by decide) hw hm]
   obtain ⟨i1, i2⟩ := BerMath.kids_len s.data.toList s.size (0 + x.size + x.len) (0 + x.size) (1 + 1) (by omega)
   refine ⟨by simp only [List.length_cons]; omega, fun y hy => ?_⟩
   rcases List.mem_cons.1 hy with rfl | hy
   ·exact ⟨k6, k1, k2, k3, k4, k5, by show 1 ≤ 64; decide⟩
   ·obtain ⟨j1, j2, j3⟩ := i2 y hy
    exact ⟨by omega, j3⟩
  ·rw [BerMath.one_leaf _ _ _ _ _ _ x (by decide) hw hm]
   refine ⟨by simp, fun y hy => ?_⟩
   rcases List.mem_cons.1 hy with rfl | hy
   ·exact ⟨k6, k1, k2, k3, k4, k5, by show 1 ≤ 64; decide⟩
   ·simp at hy
 | error o =>
  cases o with
  | some f => rw [BerMath.one_er _ _ _ _ _ _ f (by decide) hw]; exact ⟨by simp, fun x hx => by simp at hx⟩
  | none => rw [BerMath.one_miss _ _ _ _ _ _ (by decide) hw]; exact ⟨by simp, fun x hx => by simp at hx⟩
end Go.Proofs.YtkknenmpdimdbaaGreatDoor

namespace Go.Proofs.YtkknenmpdimdbaaGreatDoor
open Go.RowKit
open BerMath (Hd HR num hAt)
theorem caught_all (k : FuncId) (cap : Array Value) (w : World) (R : Ending → World → Prop)
  (hent : ∀ args W, (callFunc k args).run Tryz.prog W = .ok (.enter k args) W)
  (hr : Calls Tryz.prog k cap (w.alloc (.cells #[.int .i64 0, .int .i64 0] 238)) fun r w1 => R r w1 ∧ w1.heap[w.heap.size]? = (w.alloc (.cells #[.int .i64 0, .int .i64 0] 238)).heap[w.heap.size]? ∧ w.heap.size < w1.heap.size ∧ ∃ c q, Read r c q) :
  Calls Tryz.prog 171 #[.func (.func k) #[] cap] w fun r w' => ∃ r1 w1 c q, R r1 w1 ∧ Read r1 c q ∧ r = .returned (fltV c q) ∧ Below w.heap.size w1 w' ∧ ∀ b, b < w1.heap.size → b ≠ w.heap.size → w'.heap[b]? = w1.heap[b]? := by
 have hmf : ∀ (fn : Fn) (first cap : Array Value) (w : World), (Instr.makeFunc fn first cap).run Tryz.prog w = .ok (.func fn first cap) w := fun _ _ _ _ => rfl
 go_enter_defers Tryz.func171, Tryz.ntmps171
 go_wp2_with fail
 refine hr.mono ?_
 rintro r w1 ⟨hR, hblk, hlt, c, q, hread⟩
 have c0 : w1.cell? ⟨w.heap.size, 0, none⟩ = some (.int .i64 0) := by rw [World.cell?_of_block (w := w.alloc (.cells #[.int .i64 0, .int .i64 0] 238)) (a := ⟨w.heap.size, 0, none⟩) hblk]; simp [go_sem]
 have c1 : w1.cell? ⟨w.heap.size, 1, none⟩ = some (.int .i64 0) := by rw [World.cell?_of_block (w := w.alloc (.cells #[.int .i64 0, .int .i64 0] 238)) (a := ⟨w.heap.size, 1, none⟩) hblk]; simp [go_sem]
 have f0 : w1.frozen? ⟨w.heap.size, 0, none⟩ = false := by rw [World.frozen?_of_block (w := w.alloc (.cells #[.int .i64 0, .int .i64 0] 238)) (a := ⟨w.heap.size, 0, none⟩) hblk]; simp [go_sem]
 have f1 : w1.frozen? ⟨w.heap.size, 1, none⟩ = false := by rw [World.frozen?_of_block (w := w.alloc (.cells #[.int .i64 0, .int .i64 0] 238)) (a := ⟨w.heap.size, 1, none⟩) hblk]; simp [go_sem]
 clear hblk hr
 rcases hread with ⟨rfl, rfl, rfl⟩ | rfl
 ·
  obtain ⟨W, hW⟩ : ∃ W, W = (w1.setCell ⟨w.heap.size, 0, none⟩ (.int .i64 0)).setCell ⟨w.heap.size, 1, none⟩ (.int .i64 0) := ⟨_, rfl⟩
  have hs : W.heap.size = w1.heap.size := by rw [hW]; simp only [World.size_setCell]
  have hBW : Below w.heap.size w1 W := by
   rw [hW]
   refine Below.setCell (Below.setCell (Below.refl _ _) ?_ _) ?_ _ <;> exact Nat.le_refl _
  have c0' : W.cell? ⟨w.heap.size, 0, none⟩ = some (.int .i64 0) := by rw [hW]; simp [go_sem, c0]
  have c1' : W.cell? ⟨w.heap.size, 1, none⟩ = some (.int .i64 0) := by rw [hW]; simp [go_sem, c1]
  have f0' : W.frozen? ⟨w.heap.size, 0, none⟩ = false := by rw [hW]; simp [go_sem, f0]
  have f1' : W.frozen? ⟨w.heap.size, 1, none⟩ = false := by rw [hW]; simp [go_sem, f1]
  go_wp2_with fail
  rw [← hW]
  refine leaves_cons (f := 177) (args := #[.pointer (some ⟨w.heap.size, 0, none⟩)]) (by simp) (by simp [go_sem]) ?_
  refine (catch_idle w.heap.size W _ _ (by rw [hs]; exact hlt) c0' c1' f0' f1').mono ?_
  rintro e u' w'' ⟨rfl, rfl, w2, y0, y1, hb2, k0, k1, rfl⟩
  simp [Leaves, settle, results, Tryz.results171, go_sem, k0, k1]
  refine ⟨_, w1, hR, 0, 0, Or.inl ⟨rfl, rfl, rfl⟩, ⟨rfl, rfl⟩, ?_, ?_⟩
  ·have h1 : Below w.heap.size w1 w2 := hBW.trans (hb2.mono (by rw [hs]; exact Nat.le_of_lt hlt))
   refine Below.setCell (Below.setCell h1 ?_ _) ?_ _ <;> exact Nat.le_refl _
  ·intro b hb hbn
   rw [Below.heap_setCell _ _ _ _ hbn, Below.heap_setCell _ _ _ _ hbn, hb2.block b (by rw [hs]; exact hb), hW, Below.heap_setCell _ _ _ _ hbn, Below.heap_setCell _ _ _ _ hbn]
 ·
  refine leaves_cons (f := 177) (args := #[.pointer (some ⟨w.heap.size, 0, none⟩)]) (by simp) (by simp [go_sem]) ?_
  refine (catch_panicking w.heap.size c q [] w1 _ _ hlt c0 c1 f0 f1).mono ?_
  rintro e u' w'' ⟨rfl, rfl, w2, y0, y1, hb2, k0, k1, rfl⟩
  simp [Leaves, settle, results, Tryz.results171, go_sem, k0, k1]
  refine ⟨_, w1, hR, c, q, Or.inr rfl, ⟨rfl, rfl⟩, ?_, ?_⟩
  ·refine Below.setCell (Below.setCell (hb2.mono (Nat.le_of_lt hlt)) ?_ _) ?_ _ <;> exact Nat.le_refl _
  ·intro b hb hbn
   rw [Below.heap_setCell _ _ _ _ hbn, Below.heap_setCell _ _ _ _ hbn, hb2.block b hb]
end Go.Proofs.YtkknenmpdimdbaaGreatDoor
