import Derived.Test.YtkknenmpdimdbaaGreatDoorFW29
import Derived.Deep.RegionHeld3
import Derived.Deep.RegionHeldLaw
namespace Go.Proofs.YtkknenmpdimdbaaGreatDoor
open Go.RowKit Go.Shelf
open BerMath (Hd HR num hAt wAt El TR elEnd endE one andThen kids)
open BtSeq (SeqP postP range_p region_round postP_shut)
attribute [local go_sem] Oper.semAt_some
set_option linter.unusedVariables false
def lastE (xs : List El) : Nat := match xs.getLast? with
 | some x => elEnd x
 | none => 0
theorem lastE_snoc (xs : List El) (x : El) : lastE (xs ++ [x]) = elEnd x := by unfold lastE; rw [List.getLast?_concat]
def treeR (s : ByteArray) : Except (Nat × Nat) (List El) :=
 match (tr s).2 with
 | some f => .error f
 | none => if lastE (tr s).1 < s.size then .error (27, lastE (tr s).1) else .ok (tr s).1
def tree1Q (s : ByteArray) (pl : Nat) (w : World) (r : Ending) (w' : World) : Prop :=
 (∀ b, b < w.heap.size → b ≠ pl → w'.heap[b]? = w.heap[b]?) ∧ Below pl w w' ∧
 (
  (∃ xs v, treeR s = .ok xs ∧ r = .returned (.tuple #[]) ∧ w'.cell? ⟨pl, 0, none⟩ = some v ∧ OwnN w' w.heap.size v (xs.map (ndOf s))) ∨
  (∃ f, treeR s = .error f ∧ r = gaveUp (f.1 : Int) (f.2 : Int)))
def T1I (s : ByteArray) (pb pl : Nat) (w : World) (pre : List El) (W : World) : Prop :=
 (∃ v, Boxed W pl 148 v ∧ OwnN W w.heap.size v (pre.map (ndOf s))) ∧ Boxed W w.heap.size 3 (.int .i64 (lastE pre : Int)) ∧ Boxed W pb 9 (.string s) ∧
 (∀ b, b < w.heap.size → b ≠ pl → W.heap[b]? = w.heap[b]?) ∧ Below pl w W ∧ w.heap.size + 2 ≤ W.heap.size
theorem t1I_own (s : ByteArray) (pb pl : Nat) (w : World) (hpb : pb < w.heap.size) (hpl : pl < w.heap.size) : OwnFrom (w.heap.size + 2) (T1I s pb pl w) := by
 rintro pre W W' row ⟨⟨v, h1, h2⟩, h3, h4, h5, h6, h7⟩ hg hr
 have hne : ∀ k, k < w.heap.size + 2 → some k ≠ row := fun k hk e => by have := (hr k e.symm).1; omega
 refine ⟨⟨v, h1.kept hg (hne _ (by omega)), ?_⟩, h3.kept hg (hne _ (by omega)), h4.kept hg (hne _ (by omega)), fun b hb hb' => (hg.block b (by omega) (hne b (by omega))).trans (h5 b hb hb'), ?_, by have := hg.size; omega⟩
 ·refine ownN_block h2 (fun g _ hlt hv => hg.block g hlt (fun e => ?_))
  obtain ⟨_, o, ho, hc⟩ := hr g e.symm
  rcases h2.2 with ⟨rfl, _⟩ | ⟨g', cap, cur, rfl, _, hgb, _⟩
  ·simp [Value.ownBlock] at hv
  ·simp [Value.ownBlock] at hv
   subst hv
   rw [hgb] at ho
   injection ho with ho
   subst ho
   cases hc
 ·exact h6.trans ⟨hg.os, hg.tape, hg.output, hg.size, fun k hk => hg.block k (by omega) (hne k (by omega))⟩
theorem box6 {W : World} {b : Nat} {h : Hd} {d : Int} (g : W.heap[b]? = some (elmO h d)) : W.cell? ⟨b, 0, none⟩ = some (.int .i64 (h.cls : Int)) ∧ W.cell? ⟨b, 1, none⟩ = some (.bool h.made) ∧ W.cell? ⟨b, 2, none⟩ = some (.int .i64 (h.tag : Int)) ∧ W.cell? ⟨b, 3, none⟩ = some (.int .i64 (h.len : Int)) ∧ W.cell? ⟨b, 4, none⟩ = some (.int .i64 (h.size : Int)) ∧ W.cell? ⟨b, 5, none⟩ = some (.int .i64 d) := by
 refine ⟨?_, ?_, ?_, ?_, ?_, ?_⟩ <;> simp [World.cell?, g]
def SB (Bx pb : Nat) (h : Hd) (d : Int) (s : ByteArray) (W : World) : Prop := W.heap[Bx]? = some (elmO h d) ∧ W.heap[pb]? = some (.cells #[.string s] 9 (0, 0))
theorem step_node_at (w : World) {ops : Array Oper} {o : Oper} {a : Act} {K : Act → World → Prop} {Q : Exit → Act → World → Prop} {E : Prop} (hgd : o.guard = none) (s x : Operand)
  (ho : o.op = .call { callee := .builtin .append, args := #[s, x], argTypes := #[148, 148] }) (B : Nat) (v : Value) (l : List Nd) (e : Nd) (g : Nat)
  (hs : a.eval s = v) (hx : a.eval x = .slice (some ⟨g, 0, none⟩) 1 1) (hown : OwnN w B v l) (hg : w.heap[g]? = some (.cells #[.int .i64 e.dep, .int .i64 e.cls, .bool e.made, .int .i64 e.tag, .string e.body] 153 (0, 0))) (hB : B ≤ w.heap.size) (hl : l.length ≤ 4294967296)
  (h : ∀ g' cap w', OwnN w' B (.slice (some ⟨g', 0, none⟩) (l.length + 1) cap) (l ++ [e]) → w.grownBy w' v.ownBlock → K (a.put o.dst (.slice (some ⟨g', 0, none⟩) (l.length + 1) cap)) w') :
  if Region.wanted o (yielded ops a.tmps) = true then Oper.wp Tryz.prog o a w K Q else E := by
 obtain ⟨i0, hi, hz0, hz1, hz2⟩ := info_parts info_node
 refine step_append_lies w hgd s x 148 ho B 153 i0 _ 5 48 Tryz.underlying148 hi hz0 hz1 hz2 rfl (by decide) v l.length (nv l) hs hown ⟨g, 0, none⟩ 1 1 (ndV e) hx rfl (World.news_of_block hg) (ndV_one e) (by decide) (by unfold maxLen; omega) (by omega) hB w.heap.size rfl ?_
 intro g' cap w' h1 h2 _ _
 refine h g' cap w' ?_ h2
 unfold OwnN
 rw [nv_snoc, List.length_append]
 exact h1
theorem t1_step (s : ByteArray) (pb pl : Nat) (w : World) (hpb : pb < w.heap.size) (hpl : pl < w.heap.size) (hne : pb ≠ pl) (pre : List El) (x : El) (W : World) (hI : T1I s pb pl w pre W) (Bx : Nat) (hBx : w.heap.size + 2 ≤ Bx) (hx : W.heap[Bx]? = some (elmO x.2.1 (x.2.2 : Int))) :
  ∃ v, W.cell? ⟨pl, 0, none⟩ = some v ∧ W.cell? ⟨pb, 0, none⟩ = some (.string s) ∧ SB Bx pb x.2.1 (x.2.2 : Int) s W ∧ (∃ va vn vc, v = .slice va vn vc) ∧
   ∀ w5, Below W.heap.size W.drew w5 → w5.cell? ⟨pl, 0, none⟩ = some v ∧ SB Bx pb x.2.1 (x.2.2 : Int) s w5 ∧ (w5.alloc (.cells #[.int .i64 (ndOf s x).dep, .int .i64 (ndOf s x).cls, .bool (ndOf s x).made, .int .i64 (ndOf s x).tag, .string (ndOf s x).body] 153)).cell? ⟨pl, 0, none⟩ = some v ∧ SB Bx pb x.2.1 (x.2.2 : Int) s (w5.alloc (.cells #[.int .i64 (ndOf s x).dep, .int .i64 (ndOf s x).cls, .bool (ndOf s x).made, .int .i64 (ndOf s x).tag, .string (ndOf s x).body] 153)) ∧
    OwnN (w5.alloc (.cells #[.int .i64 (ndOf s x).dep, .int .i64 (ndOf s x).cls, .bool (ndOf s x).made, .int .i64 (ndOf s x).tag, .string (ndOf s x).body] 153)) w.heap.size v (pre.map (ndOf s)) ∧ w.heap.size ≤ (w5.alloc (.cells #[.int .i64 (ndOf s x).dep, .int .i64 (ndOf s x).cls, .bool (ndOf s x).made, .int .i64 (ndOf s x).tag, .string (ndOf s x).body] 153)).heap.size ∧
    ∀ g' cap' w6, OwnN w6 w.heap.size (.slice (some ⟨g', 0, none⟩) (pre.length + 1) cap') (pre.map (ndOf s) ++ [ndOf s x]) → (w5.alloc (.cells #[.int .i64 (ndOf s x).dep, .int .i64 (ndOf s x).cls, .bool (ndOf s x).made, .int .i64 (ndOf s x).tag, .string (ndOf s x).body] 153)).grownBy w6 v.ownBlock →
    w6.cell? ⟨pl, 0, none⟩ = some v ∧ w6.frozen? ⟨pl, 0, none⟩ = false ∧ SB Bx pb x.2.1 (x.2.2 : Int) s w6 ∧ SB Bx pb x.2.1 (x.2.2 : Int) s (w6.setCell ⟨pl, 0, none⟩ (.slice (some ⟨g', 0, none⟩) (pre.length + 1) cap')) ∧
    (∃ u, ((w6.setCell ⟨pl, 0, none⟩ (.slice (some ⟨g', 0, none⟩) (pre.length + 1) cap')).alloc (elmO x.2.1 (x.2.2 : Int))).cell? ⟨w.heap.size, 0, none⟩ = some u) ∧
    ((w6.setCell ⟨pl, 0, none⟩ (.slice (some ⟨g', 0, none⟩) (pre.length + 1) cap')).alloc (elmO x.2.1 (x.2.2 : Int))).frozen? ⟨w.heap.size, 0, none⟩ = false ∧
    (
     KeepsFrom (w.heap.size + 2) W (((w6.setCell ⟨pl, 0, none⟩ (.slice (some ⟨g', 0, none⟩) (pre.length + 1) cap')).alloc (elmO x.2.1 (x.2.2 : Int))).setCell ⟨w.heap.size, 0, none⟩ (.int .i64 (elEnd x : Int))) ∧
     KW W (((w6.setCell ⟨pl, 0, none⟩ (.slice (some ⟨g', 0, none⟩) (pre.length + 1) cap')).alloc (elmO x.2.1 (x.2.2 : Int))).setCell ⟨w.heap.size, 0, none⟩ (.int .i64 (elEnd x : Int))) ∧
     T1I s pb pl w (pre ++ [x]) (((w6.setCell ⟨pl, 0, none⟩ (.slice (some ⟨g', 0, none⟩) (pre.length + 1) cap')).alloc (elmO x.2.1 (x.2.2 : Int))).setCell ⟨w.heap.size, 0, none⟩ (.int .i64 (elEnd x : Int)))) := by
 obtain ⟨⟨v, h1, h2⟩, h3, h4, h5, h6, h7⟩ := hI
 refine ⟨v, h1.cell, h4.cell, ⟨hx, h4⟩, ?_, fun w5 hb5' => ?_⟩
 ·rcases ownN_form h2 with ⟨e, _⟩ | ⟨g, cap, e⟩ <;> exact ⟨_, _, _, e⟩
 have hb5 : Below W.heap.size W w5 := ⟨hb5'.os, hb5'.tape, hb5'.output, hb5'.size, hb5'.block⟩
 have hplW : pl < W.heap.size := h1.lt
 have hown5 : OwnN w5 w.heap.size v (pre.map (ndOf s)) := ownN_below h2 hb5
 have hs5 := hb5.size
 obtain ⟨w5a, hw5a⟩ : ∃ w5a, w5.alloc (.cells #[.int .i64 (ndOf s x).dep, .int .i64 (ndOf s x).cls, .bool (ndOf s x).made, .int .i64 (ndOf s x).tag, .string (ndOf s x).body] 153) = w5a := ⟨_, rfl⟩
 have hb5a : Below w5.heap.size w5 w5a := by rw [← hw5a]; exact (Below.refl _ _).alloc (Nat.le_refl _) _
 have hg5a : w5a.heap[w5.heap.size]? = some (.cells #[.int .i64 (ndOf s x).dep, .int .i64 (ndOf s x).cls, .bool (ndOf s x).made, .int .i64 (ndOf s x).tag, .string (ndOf s x).body] 153 (0, 0)) := by rw [← hw5a]; exact World.alloc_heap_new w5 _
 have hown5a : OwnN w5a w.heap.size v (pre.map (ndOf s)) := ownN_below hown5 hb5a
 have bpl5 : Boxed w5 pl 148 v := (hb5.block pl hplW).trans h1
 have bpl5a : Boxed w5a pl 148 v := (hb5a.block pl (by omega)).trans bpl5
 have hpbW : pb < W.heap.size := h4.lt
 have hBxW : Bx < W.heap.size := (Array.getElem?_eq_some_iff.1 hx).1
 have sb5 : SB Bx pb x.2.1 (x.2.2 : Int) s w5 := ⟨(hb5.block Bx hBxW).trans hx, (hb5.block pb hpbW).trans h4⟩
 have sb5a : SB Bx pb x.2.1 (x.2.2 : Int) s w5a := ⟨(hb5a.block Bx (by omega)).trans sb5.1, (hb5a.block pb (by omega)).trans sb5.2⟩
 rw [hw5a]
 refine ⟨bpl5.cell, sb5, bpl5a.cell, sb5a, hown5a, by have := hb5a.size; omega, fun g' cap' w6 ho6 hg6 => ?_⟩
 have bpl6 : Boxed w6 pl 148 v := bpl5a.kept hg6 (bpl5a.not_row (by decide) hown5a)
 obtain ⟨ks, hks⟩ : ∃ ks : Nat → Prop, ks = fun k => v.ownBlock = some k ∨ k = pl ∨ k = w.heap.size := ⟨_, rfl⟩
 have own_ty : ∀ (k : Nat), v.ownBlock = some k → ∃ cs, W.heap[k]? = some (.cells cs 153 (0, 0)) ∧ w.heap.size ≤ k := fun k hk => by
  rcases h2.2 with ⟨rfl, _⟩ | ⟨g, cap, cur, rfl, hb, hgb, _⟩
  ·simp [Value.ownBlock] at hk
  ·simp [Value.ownBlock] at hk
   subst hk
   exact ⟨cur, hgb, hb⟩
 obtain ⟨X, hX⟩ : ∃ X, w6.setCell ⟨pl, 0, none⟩ (.slice (some ⟨g', 0, none⟩) (pre.length + 1) cap') = X := ⟨_, rfl⟩
 have ch6 : ChN ks W w6 := ((ChN.of_below hb5).trans (ChN.of_below (hb5a.mono (Nat.le_refl _)))).trans (ChN.of_grown hg6 (fun r e => by rw [hks]; exact Or.inl e))
 have chX : ChN ks W X := by rw [← hX]; exact ch6.trans (ChN.set _ _ _ (by rw [hks]; exact Or.inr (Or.inl rfl)))
 have bplX : Boxed X pl 148 (.slice (some ⟨g', 0, none⟩) (pre.length + 1) cap') := by rw [← hX]; exact bpl6.set _
 have hownX : OwnN X w.heap.size (.slice (some ⟨g', 0, none⟩) (pre.length + 1) cap') ((pre ++ [x]).map (ndOf s)) := by
  rw [← hX, List.map_append]
  exact ho6.kept (grownBy_setCell' w6 pl _) (.inr (bpl6.not_row (by decide) ho6).symm)
 have nB : ∀ k cs t, W.heap[k]? = some (.cells cs t (0, 0)) → t ≠ 153 → v.ownBlock ≠ some k := fun k cs t hk ht e => by
  obtain ⟨cs', he, _⟩ := own_ty k e
  rw [hk] at he
  injection he with he
  injection he with _ he
  exact ht he
 have hXB : X.heap[Bx]? = some (elmO x.2.1 (x.2.2 : Int)) := (chX.2.2.2.2 Bx (Array.getElem?_eq_some_iff.1 hx).1 (by
  rw [hks]
  rintro (e | e | e)
  ·exact nB _ _ _ hx (by decide) e
  ·omega
  ·omega)).trans hx
 have h3w : w.heap.size < W.heap.size := by omega
 have hX3 : Boxed X w.heap.size 3 (.int .i64 (lastE pre : Int)) := by
  rw [← hX]
  refine (Below.heap_setCell _ _ _ _ (by show w.heap.size ≠ pl; omega)).trans ?_
  refine (hg6.block _ (by have := hb5a.size; omega) ?_).trans ?_
  ·exact fun e => nB _ _ _ h3 (by decide) e.symm
  ·exact (hb5a.block _ (by omega)).trans ((hb5.block _ h3w).trans h3)
 obtain ⟨Y, hY⟩ : ∃ Y, (X.alloc (elmO x.2.1 (x.2.2 : Int))).setCell ⟨w.heap.size, 0, none⟩ (.int .i64 (elEnd x : Int)) = Y := ⟨_, rfl⟩
 have hX3a : Boxed (X.alloc (elmO x.2.1 (x.2.2 : Int))) w.heap.size 3 (.int .i64 (lastE pre : Int)) := hX3.alloc _
 have chY : ChN ks W Y := by
  rw [← hY]
  exact (chX.trans (ChN.of_below ((Below.refl _ _).alloc (Nat.le_refl _) _))).trans (ChN.set _ _ _ (by rw [hks]; exact Or.inr (Or.inr rfl)))
 have hYk : ∀ k, k < X.heap.size → k ≠ w.heap.size → Y.heap[k]? = X.heap[k]? := fun k hk hkn => by
  rw [← hY]
  rw [Below.heap_setCell _ _ _ _ hkn, Below.heap_alloc _ _ _ hk]
 have sb6 : SB Bx pb x.2.1 (x.2.2 : Int) s w6 := ⟨(hg6.block Bx (Array.getElem?_eq_some_iff.1 sb5a.1).1 (fun e => nB _ _ _ hx (by decide) e.symm)).trans sb5a.1, (hg6.block pb (Array.getElem?_eq_some_iff.1 sb5a.2).1 (fun e => nB _ _ _ h4 (by decide) e.symm)).trans sb5a.2⟩
 have sbX : SB Bx pb x.2.1 (x.2.2 : Int) s X := ⟨hXB, by rw [← hX]; exact (Below.heap_setCell _ _ _ _ hne).trans sb6.2⟩
 rw [hX]
 refine ⟨bpl6.cell, bpl6.frozen, sb6, sbX, ⟨_, hX3a.cell⟩, hX3a.frozen, ?_⟩
 rw [hY]
 have hksB : ∀ k, ks k → pl ≤ k := fun k hk => by
  rw [hks] at hk
  rcases hk with e | e | e
  ·obtain ⟨_, _, h⟩ := own_ty k e; omega
  ·omega
  ·omega
 refine ⟨chY.keeps ?_, chY.kw ?_, ?_⟩
 ·intro k o hk _ ho
  rw [hks] at hk
  rcases hk with e | e | e
  ·obtain ⟨cs, he, _⟩ := own_ty k e
   rw [he] at ho; injection ho with ho; subst ho; rfl
  ·subst e; rw [show W.heap[k]? = _ from h1] at ho; injection ho with ho; subst ho; rfl
  ·subst e; rw [show W.heap[w.heap.size]? = _ from h3] at ho; injection ho with ho; subst ho; rfl
 ·intro k cs t hk ho
  rw [hks] at hk
  rcases hk with e | e | e
  ·obtain ⟨cs', he, _⟩ := own_ty k e
   rw [he] at ho; injection ho with ho; injection ho with _ ho; subst ho; decide
  ·subst e; rw [show W.heap[k]? = _ from h1] at ho; injection ho with ho; injection ho with _ ho; subst ho; decide
  ·subst e; rw [show W.heap[w.heap.size]? = _ from h3] at ho; injection ho with ho; injection ho with _ ho; subst ho; decide
 ·have hXs := chX.2.2.2.1
  refine ⟨⟨_, (hYk pl (by omega) (by omega)).trans bplX, ownN_block hownX (fun g _ hlt hv => hYk g hlt (fun e => ?_))⟩, ?_, ?_, ?_, ?_, ?_⟩
  ·subst e
   exact (hX3.not_row (by decide) hownX) hv.symm
  ·rw [lastE_snoc, ← hY]
   exact hX3a.set _
  ·have : X.heap[pb]? = W.heap[pb]? := chX.2.2.2.2 pb (by omega) (by
    rw [hks]
    rintro (e | e | e)
    ·exact nB _ _ _ h4 (by decide) e
    ·omega
    ·omega)
   exact (hYk pb (by omega) (by omega)).trans (this.trans h4)
  ·intro b hb hbn
   refine (chY.2.2.2.2 b (by omega) ?_).trans (h5 b hb hbn)
   rw [hks]
   rintro (e | e | e)
   ·obtain ⟨_, _, h⟩ := own_ty b e; omega
   ·exact hbn e
   ·omega
  ·exact h6.trans (chY.below (by omega) hksB)
  ·have := chY.2.2.2.1; omega
set_option maxRecDepth 100000 in
set_option maxHeartbeats 4000000 in
theorem tree1_any (s : ByteArray) (hm : s.size ≤ 281474976710656) (pb pl : Nat) (w : World) (hpb : Boxed w pb 9 (.string s)) (hpl : Boxed w pl 148 (.slice none 0 0)) :
  Calls Tryz.prog 172 #[.pointer (some ⟨pb, 0, none⟩), .pointer (some ⟨pl, 0, none⟩)] w (tree1Q s pl w) := by
 have hpb1 : Hid (pb < w.heap.size) := hpb.lt
 have hpl1 : Hid (pl < w.heap.size) := hpl.lt
 have hdd : ∀ k : Nat, (Fence.wide.depth.isSome = true → 1 ≤ k) := fun k h => (by cases h)
 have hEl : ∀ W', Hid (Calls Tryz.prog 173 #[.string s] W' fun r w' => r = .returned (.func (.func 179) #[] #[.pointer (some ⟨W'.heap.size, 0, none⟩)]) ∧ w' = W'.alloc (.cells #[.string s] 9)) := fun W' => elements_any s W'
 have c0 := hpb.cell
 obtain ⟨Q0, hQ0⟩ : ∃ Q0, tree1Q s pl w = Q0 := ⟨_, rfl⟩
 rw [hQ0]
 have hQ : Hid (tree1Q s pl w = Q0) := hQ0
 clear hQ0
 have c1 : (w.alloc (.cells #[.int .i64 0] 3)).cell? ⟨pb, 0, none⟩ = some (.string s) := (hpb.alloc _).cell
 refine (callsIn_wide (n := 3)).1 ?_
 refine callsIn_of_wp_marks Tryz.func172 rfl trivial ?_ rfl
 simp only [Tryz.ntmps172, List.size_toArray, List.length_cons, List.length_nil, Nat.reduceAdd, Nat.reduceSub, Array.replicate_succ, Array.replicate_zero, List.push_toArray, List.append_toArray, List.nil_append, List.cons_append]
 gi_wp2_with (refine ⟨trivial, ?_⟩; gi_at_call 173; refine (callsIn_wide.2 (hEl _).out).mono ?_; rintro r w2 ⟨rfl, rfl⟩)
 have hsb : ((w.alloc (.cells #[.int .i64 0] 3)).alloc (.cells #[.string s] 9)).heap[w.heap.size + 1]? = some (.cells #[.string s] 9 (0, 0)) := by
  have := World.alloc_heap_new (w.alloc (.cells #[.int .i64 0] 3)) (.cells #[.string s] 9)
  rwa [World.size_alloc] at this
 obtain ⟨W0, hW0⟩ : ∃ W0, (w.alloc (.cells #[.int .i64 0] 3)).alloc (.cells #[.string s] 9) = W0 := ⟨_, rfl⟩
 have hs0 : W0.heap.size = w.heap.size + 2 := by rw [← hW0]; simp
 have hI0 : T1I s pb pl w [] W0 := by
  rw [← hW0]
  have hb : Below w.heap.size w ((w.alloc (.cells #[.int .i64 0] 3)).alloc (.cells #[.string s] 9)) := ((Below.refl _ _).alloc (Nat.le_refl _) _).alloc (by simp) _
  exact ⟨⟨_, (hpl.alloc _).alloc _, ownN_nil _ _⟩, (Boxed.new w _ _).alloc _, (hpb.alloc _).alloc _, fun b hb' _ => hb.block b hb', hb.mono (Nat.le_of_lt hpl1.out), by simp⟩
 rw [hW0] at hsb ⊢
 have hne : Hid (pb ≠ pl) := fun e => by
  have h1 : w.heap[pb]? = _ := hpb
  rw [e, show w.heap[pl]? = _ from hpl] at h1
  injection h1 with h1
  injection h1 with _ h1
  exact absurd h1 (by decide)
 have hmix : Tryz.prog.follows .mixedOrders = true := by kernel_rfl
 clear hpb hpl c0 c1 hEl
 refine range_p (by decide) (gf := 179) (lb := #[.pointer (some ⟨w.heap.size + 1, 0, none⟩)]) rfl (enters_of Tryz.func179 (by kernel_rfl) rfl)
  (elements1_any 2 s hm (w.heap.size + 1) W0 hsb) (fun h h' => KW.trans h h') (fun W l o o' _ hl ho _ => kw_put 0 W l o o' hl ho) (Below.refl _ _) (fun _ => rfl)
  (T1I s pb pl w) (fun _ _ _ => False) (by rw [hs0]; exact t1I_own s pb pl w hpb1.out hpl1.out) (fun _ _ _ _ _ h _ _ => h) hI0
  (fun x a' W => ∃ Bx, w.heap.size + 2 ≤ Bx ∧ W.heap[Bx]? = some (elmO x.2.1 (x.2.2 : Int)) ∧ a' = { tmps := #[.pointer (some ⟨pb, 0, none⟩), .pointer (some ⟨pl, 0, none⟩), .pointer (some ⟨w.heap.size, 0, none⟩), .int .i64 (x.1 : Int), .pointer (some ⟨Bx, 0, none⟩), .string s, .func (.func 179) #[] #[.pointer (some ⟨w.heap.size + 1, 0, none⟩)], .int .i64 (x.1 : Int), elmV x.2.1 (x.2.2 : Int), undef, undef, undef, undef, undef, undef, undef, undef, undef, undef, undef, undef, undef, undef, undef, undef, undef], defers := [] })
  ?hAx ?assign ?body ?done ?stop ?panic
 case hAx =>
  rintro x a' _ W W' row ⟨Bx, h1, h2, h3⟩ hg hr
  refine ⟨Bx, h1, (hg.block Bx (Array.getElem?_eq_some_iff.1 h2).1 (fun e => ?_)).trans h2, h3⟩
  obtain ⟨_, o, ho, hc⟩ := hr Bx e.symm
  rw [h2] at ho
  injection ho with ho
  subst ho
  cases hc
 case assign =>
  rintro l pre ⟨p, h, d⟩ W K hi hp hK
  have hWs := hi.2.2.2.2.2
  have hK' := hK { tmps := #[.pointer (some ⟨pb, 0, none⟩), .pointer (some ⟨pl, 0, none⟩), .pointer (some ⟨w.heap.size, 0, none⟩), .int .i64 (p : Int), .pointer (some ⟨W.heap.size, 0, none⟩), .string s, .func (.func 179) #[] #[.pointer (some ⟨w.heap.size + 1, 0, none⟩)], .int .i64 (p : Int), elmV h (d : Int), undef, undef, undef, undef, undef, undef, undef, undef, undef, undef, undef, undef, undef, undef, undef, undef, undef], defers := [] } (W.alloc (elmO h (d : Int))) ((KeepsOthers.alloc W _).from _) (KW.of_below ((Below.refl _ _).alloc (Nat.le_refl _) _)) (OwnFrom.alloc (t1I_own s pb pl w hpb1.out hpl1.out) _ hi) ⟨W.heap.size, hWs, World.alloc_heap_new W _, rfl⟩
  clear hK hi hp
  gi_wp2
  exact hK'
 case body =>
  rintro l pre ⟨p, h, d⟩ a' W hl hlr hI ⟨Bx, hBx, hx, rfl⟩ hpx
  have hmem : (p, h, d) ∈ (tr s).1 := hpx.subset (by simp)
  obtain ⟨t1, t2⟩ := tr_len s
  obtain ⟨k1, k2, k3, k4, k5, k6, k7⟩ := t2 _ hmem
  have hpl' : pre.length ≤ 4294967296 := by have := hpx.length_le; simp at this; omega
  obtain ⟨v, e1, e3, hSW, ⟨va, vn, vc, rfl⟩, e4⟩ := t1_step s pb pl w hpb1.out hpl1.out hne.out pre (p, h, d) W hI Bx hBx hx
  have hpl2 : Hid (pre.length ≤ 4294967296) := hpl'
  have hNd : ∀ W', Hid (Calls Tryz.prog 174 #[elmV h (d : Int), .string s, .int .i64 (p : Int)] W' fun r w' => r = .returned (ndA (ndOf s (p, h, d))) ∧ Below W'.heap.size W' w') := fun W' => node_any s h d p W' (by have : p + h.size + h.len ≤ s.size := k1; omega) k3 k4 k1
  have hEn : ∀ W', Hid (Calls Tryz.prog 175 #[elmV h (d : Int), .int .i64 (p : Int)] W' fun r w' => r = .returned (.int .i64 (elEnd (p, h, d) : Int)) ∧ w' = W'.alloc (elmO h (d : Int))) := fun W' => end_any h (d : Int) p W' (by have : p + h.size + h.len ≤ s.size := k1; omega) k3 k4
  dsimp only at e4 hSW
  generalize elEnd (p, h, d) = EE at *
  obtain ⟨N, hN⟩ : ∃ N, ndOf s (p, h, d) = N := ⟨_, rfl⟩
  rw [hN] at hNd e4
  have e4' : Hid _ := e4
  have hs0' : Hid (W0.heap.size = w.heap.size + 2) := hs0
  have hSW : SB Bx pb h (d : Int) s W.drew := hSW
  clear e4 hI hx hmem t1 t2 k1 k2 k3 k4 k5 k6 k7 hpl' hpx hN hI0 hsb hs0 hQ hlr
  gi_wp2
  refine region_round (S := SB Bx pb h (d : Int) s) hmix (by
   intro i o hi c
   match i, hi with
   | 0, hi => injection hi with hi; subst hi; exact fun e => by cases e
   | 1, hi => injection hi with hi; subst hi; exact fun e => by cases e
   | 2, hi => injection hi with hi; subst hi; exact fun e => by cases e
   | 3, hi => injection hi with hi; subst hi; exact fun e => by cases e
   | 4, hi => injection hi with hi; subst hi; exact fun e => by cases e
   | 5, hi => injection hi with hi; subst hi; exact fun e => by cases e
   | 6, hi => injection hi with hi; subst hi; exact fun e => by cases e
   | 7, hi => injection hi with hi; subst hi; exact fun e => by cases e
   | k + 8, hi => cases hi) (by rintro ⟨_, _, h⟩; exact h) hSW (fun _ => ?_)
  refine wpAnyH_take (i := 1) (v := ?va1) (by simp only [List.getElem?_toArray, List.getElem?_cons_zero, List.getElem?_cons_succ]; exact rfl) (by kernel_rfl) (by kernel_rfl) (by kernel_rfl) (fun _ _ _ h => h) (Or.inl ⟨by rfl, ?ya1⟩) hSW ?ra1
  case ya1 =>
   intro w' hS
   obtain ⟨q0, q1, q2, q3, q4, q5⟩ := box6 hS.1
   have q6 : w'.cell? ⟨pb, 0, none⟩ = some (.string s) := Boxed.cell hS.2
   clear hS
   go_simp
   try with_reducible rfl
  case ra1 =>
  simp only [Act.put, List.setIfInBounds_toArray, List.set_cons_zero, List.set_cons_succ]
  refine wpAnyH_take (i := 2) (v := ?va2) (by simp only [List.getElem?_toArray, List.getElem?_cons_zero, List.getElem?_cons_succ]; exact rfl) (by kernel_rfl) (by kernel_rfl) (by kernel_rfl) (fun _ _ _ h => h) (Or.inl ⟨by rfl, ?ya2⟩) hSW ?ra2
  case ya2 =>
   intro w' hS
   obtain ⟨q0, q1, q2, q3, q4, q5⟩ := box6 hS.1
   have q6 : w'.cell? ⟨pb, 0, none⟩ = some (.string s) := Boxed.cell hS.2
   clear hS
   go_simp
   try with_reducible rfl
  case ra2 =>
  simp only [Act.put, List.setIfInBounds_toArray, List.set_cons_zero, List.set_cons_succ]
  refine wpAnyH_take (i := 3) (v := ?va3) (by simp only [List.getElem?_toArray, List.getElem?_cons_zero, List.getElem?_cons_succ]; exact rfl) (by kernel_rfl) (by kernel_rfl) (by kernel_rfl) (fun _ _ _ h => h) (Or.inl ⟨by rfl, ?ya3⟩) hSW ?ra3
  case ya3 =>
   intro w' hS
   obtain ⟨q0, q1, q2, q3, q4, q5⟩ := box6 hS.1
   have q6 : w'.cell? ⟨pb, 0, none⟩ = some (.string s) := Boxed.cell hS.2
   clear hS
   go_simp
   try with_reducible rfl
  case ra3 =>
  simp only [Act.put, List.setIfInBounds_toArray, List.set_cons_zero, List.set_cons_succ]
  refine wpAnyH_ready (rs := [0, 4]) (by kernel_rfl) (by simp) ?_
  refine AllReadyH.cons (by simp only [List.getElem?_toArray, List.getElem?_cons_zero]; exact rfl) (fun K hK => ?_) (AllReadyH.cons (by simp only [List.getElem?_toArray, List.getElem?_cons_zero, List.getElem?_cons_succ]; exact rfl) (fun K hK => ?_) AllReadyH.nil)
  ·go_simp
   refine hK.out _ _ hSW (fun _ => ?_)
   clear hK K
   refine wpAnyH_ready (rs := [4]) (by kernel_rfl) (by simp) ?_
   refine AllReadyH.cons (by simp only [List.getElem?_toArray, List.getElem?_cons_zero, List.getElem?_cons_succ]; exact rfl) (fun K hK => ?_) AllReadyH.nil
   go_simp
   refine (hNd _).out.mono ?_
   rintro r w5 ⟨rfl, hb5⟩
   obtain ⟨c5, sb5, c5a, sb5a, ho5a, hs5a, e5⟩ := e4'.out w5 hb5
   have e5' : Hid _ := e5
   have ho5a' : Hid _ := ho5a
   clear e5 ho5a
   go_simp
   refine hK.out _ _ sb5 (fun _ => ?_)
   clear hK K
   refine wpAnyH_ready (rs := [5]) (by kernel_rfl) (by simp) ?_
   refine AllReadyH.cons (by simp only [List.getElem?_toArray, List.getElem?_cons_zero, List.getElem?_cons_succ]; exact rfl) (fun K hK => ?_) AllReadyH.nil
   go_simp
   refine hK.out _ _ sb5a (fun _ => ?_)
   clear hK K
   refine wpAnyH_ready (rs := [6]) (by kernel_rfl) (by simp) ?_
   refine AllReadyH.cons (by simp only [List.getElem?_toArray, List.getElem?_cons_zero, List.getElem?_cons_succ]; exact rfl) (fun K hK => ?_) AllReadyH.nil
   refine step_node_at _ (by rfl) _ _ (by rfl) w.heap.size _ (pre.map (ndOf s)) N _ (by rfl) (by rfl) ho5a'.out (heap_alloc_new _ _) hs5a (by rw [List.length_map]; exact hpl2.out) ?_
   intro g' cap' w6 ho6 hg6
   rw [List.length_map] at ho6 ⊢
   obtain ⟨c6, f6, sb6, sbX, ⟨u6, cE⟩, fE, hfin⟩ := e5'.out g' cap' w6 ho6 hg6
   have hfin' : Hid _ := hfin
   clear hfin ho6 hg6 e5' ho5a'
   refine hK.out _ _ sb6 (fun _ => ?_)
   clear hK K
   refine wpAnyH_ready (rs := [7]) (by kernel_rfl) (by simp) ?_
   refine AllReadyH.cons (by simp only [List.getElem?_toArray, List.getElem?_cons_zero, List.getElem?_cons_succ]; exact rfl) (fun K hK => ?_) AllReadyH.nil
   go_simp
   refine hK.out _ _ sbX (fun _ => ?_)
   clear hK K
   refine wpAnyH_done (by kernel_rfl) ?_ _
   obtain ⟨y0, y1, y2, y3, y4, y5⟩ := box6 sbX.1
   clear sb5 sb5a sb6 sbX c5 c5a c6 hb5
   gi_wp2_with (refine ⟨trivial, ?_⟩; gi_at_call 175; refine (CallsIn.inRound l (callsIn_wide.2 (hEn _).out)).mono ?_; rintro r w7 ⟨rfl, rfl⟩)
   show KeepsFrom _ _ _ ∧ _
   rw [hs0'.out]
   exact hfin'.out
  ·go_simp
   refine (hNd _).out.mono ?_
   rintro r w5 ⟨rfl, hb5⟩
   obtain ⟨c5, sb5, c5a, sb5a, ho5a, hs5a, e5⟩ := e4'.out w5 hb5
   have e5' : Hid _ := e5
   have ho5a' : Hid _ := ho5a
   clear e5 ho5a
   go_simp
   refine hK.out _ _ sb5 (fun _ => ?_)
   clear hK K
   refine wpAnyH_ready (rs := [0, 5]) (by kernel_rfl) (by simp) ?_
   refine AllReadyH.cons (by simp only [List.getElem?_toArray, List.getElem?_cons_zero]; exact rfl) (fun K hK => ?_) (AllReadyH.cons (by simp only [List.getElem?_toArray, List.getElem?_cons_zero, List.getElem?_cons_succ]; exact rfl) (fun K hK => ?_) AllReadyH.nil)
   ·go_simp
    refine hK.out _ _ sb5 (fun _ => ?_)
    clear hK K
    refine wpAnyH_ready (rs := [5]) (by kernel_rfl) (by simp) ?_
    refine AllReadyH.cons (by simp only [List.getElem?_toArray, List.getElem?_cons_zero, List.getElem?_cons_succ]; exact rfl) (fun K hK => ?_) AllReadyH.nil
    go_simp
    refine hK.out _ _ sb5a (fun _ => ?_)
    clear hK K
    refine wpAnyH_ready (rs := [6]) (by kernel_rfl) (by simp) ?_
    refine AllReadyH.cons (by simp only [List.getElem?_toArray, List.getElem?_cons_zero, List.getElem?_cons_succ]; exact rfl) (fun K hK => ?_) AllReadyH.nil
    refine step_node_at _ (by rfl) _ _ (by rfl) w.heap.size _ (pre.map (ndOf s)) N _ (by rfl) (by rfl) ho5a'.out (heap_alloc_new _ _) hs5a (by rw [List.length_map]; exact hpl2.out) ?_
    intro g' cap' w6 ho6 hg6
    rw [List.length_map] at ho6 ⊢
    obtain ⟨c6, f6, sb6, sbX, ⟨u6, cE⟩, fE, hfin⟩ := e5'.out g' cap' w6 ho6 hg6
    have hfin' : Hid _ := hfin
    clear hfin ho6 hg6 e5' ho5a'
    refine hK.out _ _ sb6 (fun _ => ?_)
    clear hK K
    refine wpAnyH_ready (rs := [7]) (by kernel_rfl) (by simp) ?_
    refine AllReadyH.cons (by simp only [List.getElem?_toArray, List.getElem?_cons_zero, List.getElem?_cons_succ]; exact rfl) (fun K hK => ?_) AllReadyH.nil
    go_simp
    refine hK.out _ _ sbX (fun _ => ?_)
    clear hK K
    refine wpAnyH_done (by kernel_rfl) ?_ _
    obtain ⟨y0, y1, y2, y3, y4, y5⟩ := box6 sbX.1
    clear sb5 sb5a sb6 sbX c5 c5a c6 hb5
    gi_wp2_with (refine ⟨trivial, ?_⟩; gi_at_call 175; refine (CallsIn.inRound l (callsIn_wide.2 (hEn _).out)).mono ?_; rintro r w7 ⟨rfl, rfl⟩)
    show KeepsFrom _ _ _ ∧ _
    rw [hs0'.out]
    exact hfin'.out
   ·go_simp
    refine hK.out _ _ sb5a (fun _ => ?_)
    clear hK K
    refine wpAnyH_ready (rs := [0]) (by kernel_rfl) (by simp) ?_
    refine AllReadyH.cons (by simp only [List.getElem?_toArray, List.getElem?_cons_zero]; exact rfl) (fun K hK => ?_) AllReadyH.nil
    go_simp
    refine hK.out _ _ sb5a (fun _ => ?_)
    clear hK K
    refine wpAnyH_ready (rs := [6]) (by kernel_rfl) (by simp) ?_
    refine AllReadyH.cons (by simp only [List.getElem?_toArray, List.getElem?_cons_zero, List.getElem?_cons_succ]; exact rfl) (fun K hK => ?_) AllReadyH.nil
    refine step_node_at _ (by rfl) _ _ (by rfl) w.heap.size _ (pre.map (ndOf s)) N _ (by rfl) (by rfl) ho5a'.out (heap_alloc_new _ _) hs5a (by rw [List.length_map]; exact hpl2.out) ?_
    intro g' cap' w6 ho6 hg6
    rw [List.length_map] at ho6 ⊢
    obtain ⟨c6, f6, sb6, sbX, ⟨u6, cE⟩, fE, hfin⟩ := e5'.out g' cap' w6 ho6 hg6
    have hfin' : Hid _ := hfin
    clear hfin ho6 hg6 e5' ho5a'
    refine hK.out _ _ sb6 (fun _ => ?_)
    clear hK K
    refine wpAnyH_ready (rs := [7]) (by kernel_rfl) (by simp) ?_
    refine AllReadyH.cons (by simp only [List.getElem?_toArray, List.getElem?_cons_zero, List.getElem?_cons_succ]; exact rfl) (fun K hK => ?_) AllReadyH.nil
    go_simp
    refine hK.out _ _ sbX (fun _ => ?_)
    clear hK K
    refine wpAnyH_done (by kernel_rfl) ?_ _
    obtain ⟨y0, y1, y2, y3, y4, y5⟩ := box6 sbX.1
    clear sb5 sb5a sb6 sbX c5 c5a c6 hb5
    gi_wp2_with (refine ⟨trivial, ?_⟩; gi_at_call 175; refine (CallsIn.inRound l (callsIn_wide.2 (hEn _).out)).mono ?_; rintro r w7 ⟨rfl, rfl⟩)
    show KeepsFrom _ _ _ ∧ _
    rw [hs0'.out]
    exact hfin'.out
 case done =>
  rintro D W hD hr hI hK
  have hr0 : (tr s).2 = none := by cases h : (tr s).2 with
   | none => rfl
   | some f => rw [h] at hr; cases hr
  have hI' : T1I s pb pl w (tr s).1 (W.putObj D (.deferred none)) := (t1I_own s pb pl w hpb1.out hpl1.out).putObj _ hI (by omega) hK rfl
  have cE := hI.2.1.cell
  have cB := hI.2.2.1.cell
  have hsz : (s.size : Int) ≤ 281474976710656 := by omega
  by_cases hlt : lastE (tr s).1 < s.size
  ·have hfin : Hid (Q0 (gaveUp 27 (lastE (tr s).1 : Int)) (W.putObj D (.deferred none))) := by
    unfold Hid
    rw [← hQ.out]
    refine ⟨hI'.2.2.2.1, hI'.2.2.2.2.1, Or.inr ⟨(27, lastE (tr s).1), ?_, rfl⟩⟩
    unfold treeR
    rw [hr0]
    dsimp only
    rw [if_pos hlt]
   have hlt' : (lastE (tr s).1 : Int) < (s.size : Int) := by omega
   clear hI hI' hQ hr hr0 hI0 hsb
   generalize lastE (tr s).1 = LE at *
   gi_wp2
   refine ⟨by simp, .inl ⟨_, _, rfl, run_takeDeferred hK, ?_⟩⟩
   exact hfin.out
  ·have hfin : Hid (Q0 (.returned (.tuple #[])) (W.putObj D (.deferred none))) := by
    unfold Hid
    rw [← hQ.out]
    obtain ⟨v, hv, hown⟩ := hI'.1
    refine ⟨hI'.2.2.2.1, hI'.2.2.2.2.1, Or.inl ⟨(tr s).1, v, ?_, rfl, hv.cell, hown⟩⟩
    unfold treeR
    rw [hr0]
    dsimp only
    rw [if_neg hlt]
   have hlt' : ¬ (lastE (tr s).1 : Int) < (s.size : Int) := by omega
   clear hI hI' hQ hr hr0 hI0 hsb
   generalize lastE (tr s).1 = LE at *
   gi_wp2
   refine ⟨by simp, .inl ⟨_, _, rfl, run_takeDeferred hK, ?_⟩⟩
   exact ⟨_, results_none rfl _ _ _, hfin.out⟩
 case stop =>
  rintro D c pre W _ _ h _
  exact h.elim
 case panic =>
  rintro D ch W hD hr hI hK
  obtain ⟨f, hf, rfl⟩ : ∃ f, (tr s).2 = some f ∧ ch = flt f := by
   cases h : (tr s).2 with
   | none => rw [h] at hr; cases hr
   | some f => rw [h] at hr; injection hr with hr; exact ⟨f, rfl, hr.symm⟩
  have hI' : T1I s pb pl w (tr s).1 (W.putObj D (.deferred none)) := (t1I_own s pb pl w hpb1.out hpl1.out).putObj _ hI (by omega) hK rfl
  have hfin : Hid (Q0 (gaveUp (f.1 : Int) (f.2 : Int)) (W.putObj D (.deferred none))) := by
   unfold Hid
   rw [← hQ.out]
   refine ⟨hI'.2.2.2.1, hI'.2.2.2.2.1, Or.inr ⟨f, ?_, rfl⟩⟩
   unfold treeR
   rw [hf]
  refine ⟨by simp, .inl ⟨_, _, rfl, run_takeDeferred hK, ?_⟩⟩
  exact hfin.out
end Go.Proofs.YtkknenmpdimdbaaGreatDoor
