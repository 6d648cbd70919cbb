import Derived.Test.YtkknenmpdimdbaaGreatDoorFX27
import Derived.Test.YtkknenmpdimdbaaGreatDoorFX28
import Derived.Deep.AppendLies
import Derived.KernelRfl
namespace Go.Proofs.YtkknenmpdimdbaaGreatDoor
open Go.RowKit Go.Shelf
open BerMath (Hd HR num hAt wAt El TR elEnd endE one andThen kids)
attribute [local go_sem] Oper.semAt_some
set_option linter.unusedVariables false
abbrev encE (x : El) : Array Value := #[.int .i64 (x.1 : Int), elmV x.2.1 (x.2.2 : Int)]
def KW (W W' : World) : Prop := W.heap.size ≤ W'.heap.size ∧ ∀ (k : Nat) (cs : Array Value) (t : TypeId), (t = 250 ∨ t = 244) → W.heap[k]? = some (.cells cs t (0, 0)) → W'.heap[k]? = some (.cells cs t (0, 0))
theorem KW.refl (W : World) : KW W W := ⟨Nat.le_refl _, fun _ _ _ _ h => h⟩
theorem KW.trans {A B C : World} (h : KW A B) (h' : KW B C) : KW A C := ⟨Nat.le_trans h.1 h'.1, fun k cs t ht hk => h'.2 k cs t ht (h.2 k cs t ht hk)⟩
theorem KW.of_below {A B : World} (h : Below A.heap.size A B) : KW A B := ⟨h.size, fun k cs t _ hk => (h.block k (Array.getElem?_eq_some_iff.1 hk).1).trans hk⟩
theorem own_below {β : Type} {B : Nat} {J : β → World → Prop} (h : OwnFrom B J) {s : β} {W W' : World} (hs : J s W) (hb : Below W.heap.size W W') : J s W' :=
 h s W W' none hs ⟨hb.os, hb.tape, hb.output, hb.size, fun k hk _ => hb.block k hk⟩ (fun r e => by cases e)
theorem yield_any {m : Nat} (m' : Nat) {P : Program} {l : Nat} {args : Array Value} {W : World} {R : Ending → World → Prop} (h : YieldAt Fence.wide m P l args W R) : YieldAt Fence.wide m' P l args W R := by
 obtain ⟨fn, tmps, assign, body, hy, hR⟩ := h
 exact ⟨fn, tmps, assign, body, hy, hR.1, fun c cs _ => hR.2 c cs (room_wide _)⟩
def WkQ (J Jx : List El → World → Prop) (pre : List El) (R : TR) (W : World) (r : Ending) (W' : World) : Prop :=
 (R.2 = none ∧ r = .returned (.tuple #[.int .i64 (endE R.1 : Int), .bool true]) ∧ J (pre ++ R.1) W' ∧ KW W W') ∨
 (∃ (ys : List El) (z : Int), ys <+: R.1 ∧ r = .returned (.tuple #[.int .i64 z, .bool false]) ∧ Jx (pre ++ ys) W') ∨
 (∃ f, R.2 = some f ∧ r = gaveUp (f.1 : Int) (f.2 : Int) ∧ J (pre ++ R.1) W')
theorem andThen_none {r : TR} {s : List El → TR} (h : r.2 = none) : andThen r s = (r.1 ++ (s r.1).1, (s r.1).2) := by
 obtain ⟨a, b⟩ := r
 dsimp only at h
 subst h
 rfl
theorem andThen_some {r : TR} {s : List El → TR} {f : Nat × Nat} (h : r.2 = some f) : andThen r s = (r.1, some f) := by
 obtain ⟨a, b⟩ := r
 dsimp only at h
 subst h
 rfl
theorem one_end (b : List UInt8) (K : Nat → Nat → Nat → TR) (m e p d : Nat) (h : (one b K m e p d).2 = none) : ∃ hd, wAt b p e = .ok hd ∧ endE (one b K m e p d).1 = p + hd.size + hd.len := by
 obtain ⟨⟨xs, r⟩, hr⟩ : ∃ y, one b K m e p d = y := ⟨_, rfl⟩
 rw [hr] at h ⊢
 dsimp only at h
 subst h
 obtain ⟨x, ys, hw, rfl⟩ := BerMath.one_head b K m e p d xs hr
 exact ⟨x, hw, rfl⟩
theorem w_to (p x A : Nat) (h : p + x ≤ 281474976710656) (hA : p + x = A) : wrap64 ((p : Int) + (x : Int)) = (A : Int) := by unfold wrap64; omega
theorem w_d1 (d : Nat) (h : d ≤ 65) : wrap64 ((d : Int) + 1) = ((d + 1 : Nat) : Int) := by unfold wrap64; omega
def msr (E : Nat) (pv mv : Value) : Nat :=
 match mv with
 | .bool true => E + 1 - (intOf pv).toNat
 | _ => 0
theorem msr_lt {E q q' : Nat} (h : q < q') (h' : q < E) : msr E (.int .i64 (q' : Int)) (.bool true) < msr E (.int .i64 (q : Int)) (.bool true) := by
 show E + 1 - ((q' : Int)).toNat < E + 1 - ((q : Int)).toNat
 rw [Int.toNat_natCast, Int.toNat_natCast]
 omega
theorem msr_no {E q : Nat} {z : Int} (h' : q < E) : msr E (.int .i64 z) (.bool false) < msr E (.int .i64 (q : Int)) (.bool true) := by
 show 0 < E + 1 - ((q : Int)).toNat
 rw [Int.toNat_natCast]
 omega
def LI (s : ByteArray) (J Jx : List El → World → Prop) (pre : List El) (x : El) (K : TR) (W : World) (n A E d ib : Nat) (mb : Bool) (q : Int) (wr : World) : Prop :=
 (mb = true ∧ ∃ (qn k : Nat) (acc : List El), q = (qn : Int) ∧ k ≤ n ∧ A ≤ qn ∧ qn ≤ E ∧ E ≤ qn + k ∧ K = (acc ++ (kids s.data.toList k E qn (d + 1)).1, (kids s.data.toList k E qn (d + 1)).2) ∧ J (pre ++ x :: acc) wr ∧ KW W wr ∧ wr.heap[ib]? = some (strO s (E : Int) 26)) ∨
 (mb = false ∧ ∃ ys, ys <+: x :: K.1 ∧ Jx (pre ++ ys) wr)
set_option maxRecDepth 100000 in
set_option maxHeartbeats 4000000 in
theorem walk_any (s : ByteArray) (hm : s.size ≤ 281474976710656) (l B0 : Nat) (J Jx : List El → World → Prop) (Kp : World → World → Prop) (L : List El) (hJ : OwnFrom B0 J) (hJx : OwnFrom B0 Jx) (hKp : ∀ W W', Kp W W' → KW W W')
  (hY : ∀ (pre : List El) (x : El) (W1 : World), J pre W1 → (pre ++ [x]) <+: L → YieldAt Fence.wide 0 Tryz.prog l (encE x) W1 fun e W' => Kp W1 W' ∧ ((e = .returned (.bool true) ∧ J (pre ++ [x]) W') ∨ (e = .returned (.bool false) ∧ Jx (pre ++ [x]) W'))) :
  ∀ (n m e p d : Nat) (pre : List El) (W : World), e ≤ s.size → p ≤ e → e ≤ p + n + 2 → d ≤ 65 → J pre W → (pre ++ (one s.data.toList (kids s.data.toList n) m e p d).1) <+: L →
   CallsIn Fence.wide 0 Tryz.prog 180 #[strV s (e : Int) (m : Int), .int .i64 (p : Int), .int .i64 (d : Int), .func (.yield l) #[] #[]] W (WkQ J Jx pre (one s.data.toList (kids s.data.toList n) m e p d) W) := by
 intro n
 induction n using Nat.strongRecOn with
 | ind n ih =>
 intro m e p d pre W hes hpe hf hd65 hJ0 hL
 have hdd : ∀ k : Nat, (Fence.wide.depth.isSome = true → 1 ≤ k) := fun k h => (by cases h)
 have hmix : Tryz.prog.follows .mixedOrders = true := by kernel_rfl
 have hWB : Below W.heap.size W (W.alloc (strO s (e : Int) (m : Int))) := (Below.refl _ _).alloc (Nat.le_refl _) _
 by_cases hd : 64 < d
 ·rw [BerMath.one_deep _ _ _ _ _ _ hd] at hL ⊢
  have d1 : decide ((d : Int) > 64) = true := decide_eq_true (by omega)
  have d2 : (d : Int) > 64 := by omega
  have hfin : Hid (J (pre ++ []) (W.alloc (strO s (e : Int) (m : Int)))) := by unfold Hid; rw [List.append_nil]; exact own_below hJ hJ0 hWB
  clear hf hd hL hJ0
  refine callsIn_of_wp Tryz.func180 rfl trivial ?_ rfl
  simp only [Tryz.ntmps180, List.size_toArray, List.length_cons, List.length_nil, Nat.reduceAdd, Nat.reduceSub, Array.replicate_succ, Array.replicate_zero, List.push_toArray, List.append_toArray, List.nil_append, List.cons_append]
  gi_wp2
  exact ⟨rfl, Or.inr (Or.inr ⟨(25, p), rfl, rfl, hfin.out⟩)⟩
 have hWh : ∀ W', Hid (Calls Tryz.prog 184 #[strV s (e : Int) (m : Int), .int .i64 (p : Int)] W' fun r w' => r = wholeR s.data.toList p e (m : Int) ∧ Below W'.heap.size W' w') := fun W' => whole_any s e p (m : Int) W' hes hm hpe
 have d2 : ¬ (d : Int) > 64 := by omega
 cases hw : wAt s.data.toList p e with
 | error o =>
  obtain ⟨c, q, hone, hwr⟩ : ∃ c q : Nat, one s.data.toList (kids s.data.toList n) m e p d = ([], some (c, q)) ∧ wholeR s.data.toList p e (m : Int) = gaveUp (c : Int) (q : Int) := by
   cases o with
   | some f => exact ⟨f.1, f.2, BerMath.one_er _ _ _ _ _ _ f hd hw, by unfold wholeR; rw [hw]⟩
   | none => exact ⟨m, e, BerMath.one_miss _ _ _ _ _ _ hd hw, by unfold wholeR; rw [hw]⟩
  rw [hone] at hL ⊢
  rw [hwr] at hWh
  have hfin : ∀ w2, Below (W.alloc (strO s (e : Int) (m : Int))).heap.size (W.alloc (strO s (e : Int) (m : Int))) w2 → J (pre ++ []) w2 := fun w2 hb2 => by rw [List.append_nil]; exact own_below hJ (own_below hJ hJ0 hWB) hb2
  have hfin' : Hid (∀ w2, Below (W.alloc (strO s (e : Int) (m : Int))).heap.size (W.alloc (strO s (e : Int) (m : Int))) w2 → J (pre ++ []) w2) := hfin
  clear hf hd hL hJ0 hw hone hwr hfin
  refine callsIn_of_wp Tryz.func180 rfl trivial ?_ rfl
  simp only [Tryz.ntmps180, List.size_toArray, List.length_cons, List.length_nil, Nat.reduceAdd, Nat.reduceSub, Array.replicate_succ, Array.replicate_zero, List.push_toArray, List.append_toArray, List.nil_append, List.cons_append]
  gi_wp2_with (refine ⟨trivial, rfl, ?_⟩; gi_at_call 184; refine (callsIn_wide.2 (hWh _).out).mono ?_; rintro r w2 ⟨rfl, hb2⟩)
  exact ⟨rfl, Or.inr (Or.inr ⟨(c, q), rfl, rfl, hfin'.out _ hb2⟩)⟩
 | ok h =>
  obtain ⟨k1, k2, k3, k4, k5, k6⟩ := BerMath.wAt_ok _ _ _ _ hw
  have hwr : wholeR s.data.toList p e (m : Int) = .returned (hdV h) := by unfold wholeR; rw [hw]
  rw [hwr] at hWh
  have hv : hdV h = .agg #[.int .i64 (h.cls : Int), .bool h.made, .int .i64 (h.tag : Int), .int .i64 (h.len : Int), .int .i64 (h.size : Int)] := rfl
  rw [hv] at hWh
  obtain ⟨E, hE⟩ : ∃ E, p + h.size + h.len = E := ⟨_, rfl⟩
  have hEnd : ∀ W', Hid (Calls Tryz.prog 175 #[elmV h (d : Int), .int .i64 (p : Int)] W' fun r w' => r = .returned (.int .i64 (E : Int)) ∧ w' = W'.alloc (elmO h (d : Int))) := fun W' => by rw [← hE]; exact end_any h (d : Int) p W' (by omega) k2 k3
  obtain ⟨rest, hrest⟩ : ∃ rest, (one s.data.toList (kids s.data.toList n) m e p d).1 = (p, h, d) :: rest := by
   by_cases hmd : h.made = true
   ·rw [BerMath.one_made _ _ _ _ _ _ h hd hw hmd]; exact ⟨_, rfl⟩
   ·rw [BerMath.one_leaf _ _ _ _ _ _ h hd hw hmd]; exact ⟨_, rfl⟩
  have hYx : ∀ W1, J pre W1 → Hid (YieldAt Fence.wide 0 Tryz.prog l #[.int .i64 (p : Int), elmV h (d : Int)] W1 fun e W' => ∃ b, e = .returned (.bool b) ∧ Hid (KW W1 W' ∧ ((b = true ∧ J (pre ++ [(p, h, d)]) W') ∨ (b = false ∧ Jx (pre ++ [(p, h, d)]) W')))) := fun W1 hj => by
   have hpx : (pre ++ [(p, h, d)]) <+: L := by
    refine List.IsPrefix.trans ?_ hL
    rw [hrest]
    exact ⟨rest, by simp⟩
   refine YieldAt.mono (hY pre (p, h, d) W1 hj hpx) ?_
   rintro e' W' ⟨g2, ⟨rfl, g1⟩ | ⟨rfl, g1⟩⟩
   ·exact ⟨true, rfl, hKp _ _ g2, Or.inl ⟨rfl, g1⟩⟩
   ·exact ⟨false, rfl, hKp _ _ g2, Or.inr ⟨rfl, g1⟩⟩
  have hWk : ∀ w2, Below (W.alloc (strO s (e : Int) (m : Int))).heap.size (W.alloc (strO s (e : Int) (m : Int))) w2 → Hid (J pre ((w2.alloc (elmO h (d : Int))).alloc (elmO h (d : Int))).drew ∧ KW W ((w2.alloc (elmO h (d : Int))).alloc (elmO h (d : Int))).drew ∧ w2.heap.size < ((w2.alloc (elmO h (d : Int))).alloc (elmO h (d : Int))).drew.heap.size ∧ ((w2.alloc (elmO h (d : Int))).alloc (elmO h (d : Int))).drew.heap[w2.heap.size]? = some (elmO h (d : Int)) ∧ ((w2.alloc (elmO h (d : Int))).alloc (elmO h (d : Int))).drew.heap[W.heap.size]? = some (strO s (e : Int) (m : Int))) := fun w2 hb2 => by
   have q1 : Below W.heap.size W w2 := hWB.trans (hb2.mono (by simp))
   have q2 : Below w2.heap.size w2 ((w2.alloc (elmO h (d : Int))).alloc (elmO h (d : Int))).drew := (((Below.refl _ w2).alloc (Nat.le_refl _) _).alloc (by simp) _).drew
   have q3 : W.heap.size < w2.heap.size := by have := hb2.size; simp at this; omega
   refine ⟨own_below hJ (own_below hJ hJ0 q1) q2, (KW.of_below q1).trans (KW.of_below q2), by show _ < ((w2.alloc (elmO h (d : Int))).alloc (elmO h (d : Int))).heap.size; simp; omega, ?_, ?_⟩
   ·show ((w2.alloc (elmO h (d : Int))).alloc (elmO h (d : Int))).heap[w2.heap.size]? = _
    rw [Below.heap_alloc _ _ _ (by simp)]
    exact World.alloc_heap_new w2 _
   ·rw [q2.block _ q3, hb2.block _ (by simp)]
    exact World.alloc_heap_new W _
  have hE' : Hid (p + h.size + h.len = E) := hE
  obtain ⟨Q0, hQ0⟩ : ∃ Q0, WkQ J Jx pre (one s.data.toList (kids s.data.toList n) m e p d) W = Q0 := ⟨_, rfl⟩
  rw [hQ0]
  have hQ : Hid (WkQ J Jx pre (one s.data.toList (kids s.data.toList n) m e p d) W = Q0) := hQ0
  clear hJ0 hE hQ0
  refine callsIn_of_wp Tryz.func180 rfl trivial ?_ rfl
  simp only [Tryz.ntmps180, List.size_toArray, List.length_cons, List.length_nil, Nat.reduceAdd, Nat.reduceSub, Array.replicate_succ, Array.replicate_zero, List.push_toArray, List.append_toArray, List.nil_append, List.cons_append]
  gi_wp2_with (refine ⟨trivial, rfl, ?_⟩; gi_at_call 184; refine (callsIn_wide.2 (hWh _).out).mono ?_; rintro r w2 ⟨rfl, hb2⟩)
  obtain ⟨j1, j2, j3, j4, j5⟩ := (hWk w2 hb2).out
  obtain ⟨fn, tmps, assign, body, hy, hR⟩ := (hYx _ j1).out
  gi_region_with_o (first
   | (refine ⟨trivial, rfl, ?_⟩; gi_at_call 175; refine (callsIn_wide.2 (hEnd _).out).mono ?_; rintro r w3 ⟨rfl, rfl⟩)
   | (refine ⟨rfl, ?_⟩; refine hR.mono ?_; rintro r w4 ⟨b, rfl, hb4⟩))
  all_goals
   have g1 := hb4.out.1
   have g2 : w4.heap[w2.heap.size]? = some (elmO h (d : Int)) := g1.2 _ _ _ (Or.inr rfl) j4
   have g3 : w4.heap[W.heap.size]? = some (strO s (e : Int) (m : Int)) := g1.2 _ _ _ (Or.inl rfl) j5
   have c1 : w4.cell? ⟨w2.heap.size, 1, none⟩ = some (.bool h.made) := by simp [World.cell?, g2]
   have c4 : w4.cell? ⟨w2.heap.size, 4, none⟩ = some (.int .i64 (h.size : Int)) := by simp [World.cell?, g2]
   have c0 : w4.cell? ⟨W.heap.size, 0, none⟩ = some (.string s) := by simp [World.cell?, g3]
   have hKW : Hid (KW W w4) := j2.trans g1
   clear g1 g2 g3 hR hy j1 j2 j3 j4 j5 hWh hYx hWk hEnd hb2 hWB hv hwr
   by_cases hmd : h.made = true
   ·rw [hmd] at c1
    obtain ⟨A, hA⟩ : ∃ A, p + h.size = A := ⟨_, rfl⟩
    have hAw' : Hid (wrap64 ((p : Int) + (h.size : Int)) = (A : Int)) := w_to p h.size A (by omega) hA
    have hQ0 := hQ.out
    rw [BerMath.one_made _ _ _ _ _ _ h hd hw hmd] at hL hQ0
    rw [hE'.out] at hL hQ0
    have hAE : A + h.len = E := by rw [← hA, ← hE'.out]
    rw [hA] at hL hQ0
    obtain ⟨K, hK⟩ : ∃ K, kids s.data.toList n E A (d + 1) = K := ⟨_, rfl⟩
    rw [hK] at hL hQ0
    have F1 : Hid (∀ w', J (pre ++ (p, h, d) :: K.1) w' → K.2 = none → KW W w' → Q0 (.returned (.tuple #[.int .i64 (E : Int), .bool true])) w') := fun w' q1 q2 q3 => by
     rw [← hQ0]
     refine Or.inl ⟨q2, ?_, q1, q3⟩
     rw [show endE ((p, h, d) :: K.1) = E from hE'.out]
    have F2 : Hid (∀ ys w', ys <+: (p, h, d) :: K.1 → Jx (pre ++ ys) w' → Q0 (.returned (.tuple #[.int .i64 (E : Int), .bool false])) w') := fun ys w' q1 q2 => by
     rw [← hQ0]
     exact Or.inr (Or.inl ⟨ys, _, q1, rfl, q2⟩)
    have F3 : Hid (∀ (f : Nat × Nat) w', K.2 = some f → J (pre ++ (p, h, d) :: K.1) w' → Q0 (gaveUp (f.1 : Int) (f.2 : Int)) w') := fun f w' q1 q2 => by
     rw [← hQ0]
     exact Or.inr (Or.inr ⟨f, q1, rfl, q2⟩)
    have hdw' : Hid (wrap64 ((d : Int) + 1) = ((d + 1 : Nat) : Int)) := w_d1 d hd65
    have hEs : E ≤ s.size := by have := hE'.out; omega
    obtain ⟨wI, hwI⟩ : ∃ wI, w4.alloc (strO s (E : Int) 26) = wI := ⟨_, rfl⟩
    have hbI : Below w4.heap.size w4 wI := by rw [← hwI]; exact (Below.refl _ _).alloc (Nat.le_refl _) _
    have hiI : wI.heap[w4.heap.size]? = some (strO s (E : Int) 26) := by rw [← hwI]; exact World.alloc_heap_new w4 _
    have c4I : wI.cell? ⟨w2.heap.size, 4, none⟩ = some (.int .i64 (h.size : Int)) := by rw [hbI.cell (World.block_lt_of_cell? w4 _ c4)]; exact c4
    have hst : Hid (LI s J Jx pre (p, h, d) K W n A E d w4.heap.size b (A : Int) wI) := by
     rcases hb4.out.2 with ⟨hbt, hj⟩ | ⟨hbf, hj⟩
     ·exact Or.inl ⟨hbt, A, n, [], rfl, Nat.le_refl _, Nat.le_refl _, by omega, by have := hE'.out; omega, by rw [hK]; rfl, own_below hJ hj hbI, hKW.out.trans (KW.of_below hbI), hiI⟩
     ·exact Or.inr ⟨hbf, [(p, h, d)], ⟨K.1, rfl⟩, own_below hJx hj hbI⟩
    have hL' : Hid ((pre ++ (p, h, d) :: K.1) <+: L) := hL
    have hfE : Hid (E ≤ A + n ∧ h.len ≤ n) := by have := hE'.out; exact ⟨by omega, by omega⟩
    have hd' : Hid (d ≤ 64) := Nat.not_lt.1 hd
    have hEs' : Hid (E ≤ s.size) := hEs
    have hAE' : Hid (A + h.len = E) := hAE
    clear hQ hQ0 hL hbI hiI hJ hb4 hK hrest hAE hA hEs hf hd hKW hes hpe hd65 k1 k2 k3 k4 k5 k6 hw hJx
    have hAw := hAw'.out
    gi_wp2
    clear hAw
    gi_loopw [1, 9] (fun pv mv wr => ∃ (q : Int) (mb : Bool), pv = .int .i64 q ∧ mv = .bool mb ∧ Hid (LI s J Jx pre (p, h, d) K W n A E d w4.heap.size mb q wr)) (fun pv mv _ => msr E pv mv)
    case atStart => exact ⟨_, _, rfl, rfl, by unfold Hid; rw [hAw'.out]; exact hst.out⟩
    case round =>
     clear hst hwI c0 c1 c4 c4I
     obtain ⟨q, mb, rfl, rfl, hLI⟩ := hrel
     rcases hLI.out with ⟨rfl, qn, k, acc, rfl, hkn, hAq, hqE, hEk, hKe, hj, hkw, hib⟩ | ⟨rfl, ys, hys, hj⟩
     ·by_cases hlt : qn < E
      ·obtain ⟨k', rfl⟩ : ∃ k', k = k' + 1 := ⟨k - 1, by omega⟩
       rw [BerMath.kids_succ _ _ _ _ _ (by omega)] at hKe
       obtain ⟨O, hO⟩ : ∃ O, one s.data.toList (kids s.data.toList k') 26 E qn (d + 1) = O := ⟨_, rfl⟩
       rw [hO] at hKe
       have hpreO : (pre ++ (p, h, d) :: acc ++ O.1) <+: L := by
        refine List.IsPrefix.trans ?_ hL'.out
        rw [hKe]
        cases hO2 : O.2 with
        | none => rw [andThen_none hO2]; exact ⟨(kids s.data.toList k' E (endE O.1) (d + 1)).1, by simp⟩
        | some f => rw [andThen_some hO2]; exact ⟨[], by simp⟩
       have hIH := ih k' (by omega) 26 E qn (d + 1) (pre ++ (p, h, d) :: acc) wr hEs'.out hqE (by omega) (by have := hd'.out; omega) hj (by rw [hO]; exact hpreO)
       rw [hO] at hIH
       have hib' : wr.heap[w4.heap.size]? = some (.cells #[.string s, .int .i64 (E : Int), .int .i64 26] 250 (0, 0)) := hib
       have i0 : wr.cell? ⟨w4.heap.size, 0, none⟩ = some (.string s) := by simp [World.cell?, hib']
       have i1 : wr.cell? ⟨w4.heap.size, 1, none⟩ = some (.int .i64 (E : Int)) := by simp [World.cell?, hib']
       have i2 : wr.cell? ⟨w4.heap.size, 2, none⟩ = some (.int .i64 26) := by simp [World.cell?, hib']
       have q1 : (qn : Int) < (E : Int) := by omega
       have G1 : Hid (∀ w6, O.2 = none → J ((pre ++ (p, h, d) :: acc) ++ O.1) w6 → KW wr w6 → qn < endE O.1 ∧ LI s J Jx pre (p, h, d) K W n A E d w4.heap.size true (endE O.1 : Int) w6) := fun w6 g1 g2 g3 => by
        obtain ⟨hd', hw', he'⟩ := one_end s.data.toList (kids s.data.toList k') 26 E qn (d + 1) (by rw [hO]; exact g1)
        obtain ⟨z1, z2, z3, z4, z5, z6⟩ := BerMath.wAt_ok _ _ _ _ hw'
        rw [hO] at he'
        refine ⟨by omega, Or.inl ⟨rfl, endE O.1, k', acc ++ O.1, rfl, by omega, by omega, by omega, by omega, ?_, by simpa [List.append_assoc] using g2, hkw.trans g3, g3.2 _ _ _ (Or.inl rfl) hib'⟩⟩
        rw [hKe, andThen_none g1, List.append_assoc]
       have G2 : Hid (∀ ys w6 (z : Int), ys <+: O.1 → Jx ((pre ++ (p, h, d) :: acc) ++ ys) w6 → LI s J Jx pre (p, h, d) K W n A E d w4.heap.size false z w6) := fun ys w6 z g1 g2 => by
        refine Or.inr ⟨rfl, (p, h, d) :: acc ++ ys, ?_, by simpa [List.append_assoc] using g2⟩
        obtain ⟨zs, hzs⟩ := g1
        rw [hKe]
        cases hO2 : O.2 with
        | none => rw [andThen_none hO2]; exact ⟨zs ++ (kids s.data.toList k' E (endE O.1) (d + 1)).1, by simp [← hzs]⟩
        | some f => rw [andThen_some hO2]; exact ⟨zs, by simp [← hzs]⟩
       have G3 : Hid (∀ (f : Nat × Nat) w6, O.2 = some f → J ((pre ++ (p, h, d) :: acc) ++ O.1) w6 → Q0 (gaveUp (f.1 : Int) (f.2 : Int)) w6) := fun f w6 g1 g2 => by
        refine F3.out f w6 (by rw [hKe, andThen_some g1]) ?_
        rw [hKe, andThen_some g1]
        simpa [List.append_assoc] using g2
       have hqn' : Hid (qn < E) := hlt
       clear ih hLI hKe hj hkw hib hib' hpreO hO hlt hEk hqE hAq hkn F1 F2 F3
       have hdw := hdw'.out
       gi_wp2_with (refine ⟨trivial, rfl, ?_⟩; gi_at_call 180; refine hIH.mono ?_; clear hIH; rintro r w6 (⟨g1, rfl, g2, g3⟩ | ⟨ys, z, g1, rfl, g2⟩ | ⟨f, g1, rfl, g2⟩))
       ·have hg := G1.out w6 g1 g2 g3
        have hg1 : Hid (qn < endE O.1) := hg.1
        have hg2 : Hid (LI s J Jx pre (p, h, d) K W n A E d w4.heap.size true (endE O.1 : Int) w6) := hg.2
        clear hg g1 g2 g3 G1 G2 G3 i0 i1 i2
        gi_wp2
        go_roundw
        case rel => exact ⟨_, _, rfl, rfl, hg2⟩
        case measure => exact msr_lt hg1.out hqn'.out
       ·have hg2 : Hid (LI s J Jx pre (p, h, d) K W n A E d w4.heap.size false z w6) := G2.out ys w6 z g1 g2
        clear g1 g2 G1 G2 G3 i0 i1 i2
        gi_wp2
        go_roundw
        case rel => exact ⟨_, _, rfl, rfl, hg2⟩
        case measure => exact msr_no hqn'.out
       ·exact ⟨rfl, G3.out f w6 g1 g2⟩
      ·have hqe : qn = E := by omega
       subst hqe
       rw [BerMath.kids_end _ _ _ _ _ (Nat.le_refl _)] at hKe
       have hfin : Hid (Q0 (.returned (.tuple #[.int .i64 (qn : Int), .bool true])) wr) := F1.out wr (by rw [hKe]; simpa using hj) (by rw [hKe]) hkw
       have q1 : ¬ (qn : Int) < (qn : Int) := by omega
       clear F1 F2 F3 hLI hKe hj hkw hib ih
       gi_wp2
       exact hfin.out
     ·have hfin : Hid (Q0 (.returned (.tuple #[.int .i64 (E : Int), .bool false])) wr) := F2.out ys wr hys hj
      clear F1 F2 F3 hLI hys hj ih
      gi_wp2
      exact hfin.out
   ·have hmf : h.made = false := by simpa using hmd
    rw [hmf] at c1
    have hQ0 := hQ.out
    rw [BerMath.one_leaf _ _ _ _ _ _ h hd hw hmd] at hQ0
    have hfin : Hid (Q0 (.returned (.tuple #[.int .i64 (E : Int), .bool b])) w4) := by
     unfold Hid
     rw [← hQ0]
     rcases hb4.out.2 with ⟨rfl, hj⟩ | ⟨rfl, hj⟩
     ·exact Or.inl ⟨rfl, by rw [show endE [(p, h, d)] = E from hE'.out], hj, hKW.out⟩
     ·exact Or.inr (Or.inl ⟨[(p, h, d)], E, List.prefix_refl _, rfl, hj⟩)
    clear hL hrest c4 c0 hQ hQ0 hb4 hKW
    gi_wp2
    exact hfin.out
end Go.Proofs.YtkknenmpdimdbaaGreatDoor

namespace Go.Proofs.YtkknenmpdimdbaaGreatDoor
open Go.RowKit Go.Shelf
open BerMath (Hd HR num hAt wAt El TR elEnd endE one andThen kids)
set_option linter.unusedVariables false
structure Nd where
 dep : Int
 cls : Int
 made : Bool
 tag : Int
 body : ByteArray
def ndV (e : Nd) : List Value := [.int .i64 e.dep, .int .i64 e.cls, .bool e.made, .int .i64 e.tag, .string e.body]
def nv (l : List Nd) : List Value := l.flatMap ndV
theorem nv_snoc (l : List Nd) (e : Nd) : nv (l ++ [e]) = nv l ++ ndV e := by simp [nv]
theorem ndV_one (e : Nd) : ∀ u ∈ ndV e, u.oneCell' = true := by
 intro u hu
 simp [ndV] at hu
 rcases hu with rfl | rfl | rfl | rfl | rfl <;> rfl
theorem info_node : (Tryz.prog.info? 153).map (fun i => (i.zero, i.size, i.bytes)) = some (some (.agg #[.int .i64 0, .int .i64 0, .bool false, .int .i64 0, .string ⟨#[]⟩]), 5, 48) := by kernel_rfl
def OwnN (W : World) (B : Nat) (v : Value) (l : List Nd) : Prop := W.ownsRow B 153 5 v l.length (nv l)
theorem ownN_nil (W : World) (B : Nat) : OwnN W B (.slice none 0 0) [] := ⟨rfl, Or.inl ⟨rfl, rfl⟩⟩
theorem ownN_base {w : World} {B B' : Nat} {v : Value} {l : List Nd} (h : OwnN w B v l) (hB : B' ≤ B) : OwnN w B' v l := by
 rcases h with ⟨h1, ⟨rfl, h2⟩ | ⟨g, cap, cur, rfl, h3, h4⟩⟩
 ·exact ⟨h1, Or.inl ⟨rfl, h2⟩⟩
 ·exact ⟨h1, Or.inr ⟨g, cap, cur, rfl, Nat.le_trans hB h3, h4⟩⟩
theorem ownN_block {w w' : World} {B : Nat} {v : Value} {l : List Nd} (h : OwnN w B v l) (hb : ∀ g, B ≤ g → g < w.heap.size → v.ownBlock = some g → w'.heap[g]? = w.heap[g]?) : OwnN w' B v l := by
 rcases h with ⟨h1, ⟨rfl, h2⟩ | ⟨g, cap, cur, rfl, h3, h4, h5⟩⟩
 ·exact ⟨h1, Or.inl ⟨rfl, h2⟩⟩
 ·exact ⟨h1, Or.inr ⟨g, cap, cur, rfl, h3, by rw [hb g h3 (Array.getElem?_eq_some_iff.1 h4).1 rfl]; exact h4, h5⟩⟩
theorem ownN_below {w w' : World} {B : Nat} {v : Value} {l : List Nd} (h : OwnN w B v l) (hb : Below w.heap.size w w') : OwnN w' B v l := ownN_block h (fun g _ hg _ => hb.block g hg)
theorem ownN_form {w : World} {B : Nat} {v : Value} {l : List Nd} (h : OwnN w B v l) : (v = .slice none 0 0 ∧ l = []) ∨ (∃ g cap, v = .slice (some ⟨g, 0, none⟩) l.length cap) := by
 rcases h.2 with ⟨rfl, hn⟩ | ⟨g, cap, cur, rfl, _⟩
 ·exact Or.inl ⟨rfl, List.eq_nil_of_length_eq_zero hn⟩
 ·exact Or.inr ⟨g, cap, rfl⟩
def NdRow (w : World) (a : Option Addr) (l : List Nd) : Prop := ∀ i (hi : i < l.length), ∃ b off, a = some ⟨b, off, none⟩ ∧ w.cell? ⟨b, off + i * 5, none⟩ = some (.int .i64 l[i].dep) ∧ w.cell? ⟨b, off + i * 5 + 1, none⟩ = some (.int .i64 l[i].cls) ∧ w.cell? ⟨b, off + i * 5 + 2, none⟩ = some (.bool l[i].made) ∧ w.cell? ⟨b, off + i * 5 + 3, none⟩ = some (.int .i64 l[i].tag) ∧ w.cell? ⟨b, off + i * 5 + 4, none⟩ = some (.string l[i].body)
theorem NdRow.below {w w' : World} {a : Option Addr} {l : List Nd} (h : NdRow w a l) (hb : Below w.heap.size w w') : NdRow w' a l := fun i hi => by
 obtain ⟨b, off, e, h0, h1, h2, h3, h4⟩ := h i hi
 have hlt : b < w.heap.size := World.block_lt_of_cell? w _ h0
 exact ⟨b, off, e, (hb.cell hlt).trans h0, (hb.cell hlt).trans h1, (hb.cell hlt).trans h2, (hb.cell hlt).trans h3, (hb.cell hlt).trans h4⟩
theorem appendN_one (w : World) (B : Nat) (v : Value) (l : List Nd) (e : Nd) (g : Nat) (hown : OwnN w B v l) (hg : w.heap[g]? = some (.cells #[.int .i64 e.dep, .int .i64 e.cls, .bool e.made, .int .i64 e.tag, .string e.body] 153 (0, 0))) (hB : B ≤ w.heap.size) (hl : l.length ≤ 4294967296) :
  ∃ g' cap w', (Builtin.append_ #[148, 148] 148 #[v, .slice (some ⟨g, 0, none⟩) 1 1]).run Tryz.prog w = .ok (.slice (some ⟨g', 0, none⟩) (l.length + 1) cap) w' ∧ OwnN w' B (.slice (some ⟨g', 0, none⟩) (l.length + 1) cap) (l ++ [e]) ∧ w.grownBy w' v.ownBlock := by
 obtain ⟨i0, hi, hz0, hz1, hz2⟩ := info_parts info_node
 obtain ⟨g', cap, w', hr, h2, h3, _, _⟩ := run_append_lies (P := Tryz.prog) w 148 148 B 153 i0 _ 5 48 Tryz.underlying148 hi hz0 hz1 hz2 rfl (by decide) v l.length (nv l) hown ⟨g, 0, none⟩ 1 1 (ndV e) rfl (World.news_of_block hg) (ndV_one e) (by decide) (by unfold maxLen; omega) (by omega) hB w.heap.size rfl
 refine ⟨g', cap, w', hr, ?_, h3⟩
 unfold OwnN
 rw [nv_snoc, List.length_append]
 exact h2
def ChN (ks : Nat → Prop) (W W' : World) : Prop := W'.os = W.os ∧ W'.tape = W.tape ∧ W'.output = W.output ∧ W.heap.size ≤ W'.heap.size ∧ ∀ k, k < W.heap.size → ¬ ks k → W'.heap[k]? = W.heap[k]?
theorem ChN.of_below {ks : Nat → Prop} {W W' : World} (h : Below W.heap.size W W') : ChN ks W W' := ⟨h.os, h.tape, h.output, h.size, fun k hk _ => h.block k hk⟩
theorem ChN.trans {ks : Nat → Prop} {A B C : World} (h : ChN ks A B) (h' : ChN ks B C) : ChN ks A C := by
 obtain ⟨a1, a2, a3, a4, a5⟩ := h
 obtain ⟨b1, b2, b3, b4, b5⟩ := h'
 exact ⟨b1.trans a1, b2.trans a2, b3.trans a3, Nat.le_trans a4 b4, fun k hk hn => (b5 k (by omega) hn).trans (a5 k hk hn)⟩
theorem ChN.set {ks : Nat → Prop} (W : World) (p : Addr) (v : Value) (h : ks p.block) : ChN ks W (W.setCell p v) := ⟨rfl, rfl, rfl, by rw [World.size_setCell]; exact Nat.le_refl _, fun k _ hn => Below.heap_setCell _ _ _ _ (fun e => hn (by rw [e]; exact h))⟩
theorem ChN.of_grown {ks : Nat → Prop} {W W' : World} {row : Option Nat} (h : W.grownBy W' row) (hr : ∀ r, row = some r → ks r) : ChN ks W W' := ⟨h.os, h.tape, h.output, h.size, fun k hk hn => h.block k hk (fun e => hn (hr k e.symm))⟩
theorem ChN.below {ks : Nat → Prop} {W W' : World} {B : Nat} (h : ChN ks W W') (hB : B ≤ W.heap.size) (hk : ∀ k, ks k → B ≤ k) : Below B W W' := ⟨h.1, h.2.1, h.2.2.1, h.2.2.2.1, fun k hlt => h.2.2.2.2 k (by omega) (fun e => by have := hk k e; omega)⟩
theorem ChN.keeps {ks : Nat → Prop} {W W' : World} {B : Nat} (h : ChN ks W W') (hc : ∀ k o, ks k → B ≤ k → W.heap[k]? = some o → o.isCells = true) : KeepsFrom B W W' :=
 ⟨h.2.2.2.1, fun k o hk h1 h2 => (h.2.2.2.2 k (Array.getElem?_eq_some_iff.1 h1).1 (fun e => by have := hc k o e hk h1; rw [h2] at this; cases this)).trans h1⟩
theorem ChN.kw {ks : Nat → Prop} {W W' : World} (h : ChN ks W W') (hc : ∀ k cs t, ks k → W.heap[k]? = some (.cells cs t (0, 0)) → t ≠ 250 ∧ t ≠ 244) : KW W W' :=
 ⟨h.2.2.2.1, fun k cs t ht hk => (h.2.2.2.2 k (Array.getElem?_eq_some_iff.1 hk).1 (fun e => by obtain ⟨h1, h2⟩ := hc k cs t e hk; rcases ht with ht | ht <;> contradiction)).trans hk⟩
def ndOf (s : ByteArray) (x : El) : Nd := ⟨(x.2.2 : Int), (x.2.1.cls : Int), x.2.1.made, (x.2.1.tag : Int), if x.2.1.made = true then ⟨#[]⟩ else s.extract (x.1 + x.2.1.size) (x.1 + x.2.1.size + x.2.1.len)⟩
abbrev ndA (e : Nd) : Value := .agg #[.int .i64 e.dep, .int .i64 e.cls, .bool e.made, .int .i64 e.tag, .string e.body]
set_option maxRecDepth 100000 in
set_option maxHeartbeats 2000000 in
theorem node_any (s : ByteArray) (h : Hd) (d p : Nat) (w : World) (hp : p ≤ 281474976710656) (h1 : h.size ≤ 6) (h2 : h.len < 4294967296) (h3 : p + h.size + h.len ≤ s.size) :
  Calls Tryz.prog 174 #[elmV h (d : Int), .string s, .int .i64 (p : Int)] w fun r w' => r = .returned (ndA (ndOf s (p, h, d))) ∧ Below w.heap.size w w' := by
 have hC : ∀ W, Hid (Calls Tryz.prog 182 #[elmV h (d : Int), .string s, .int .i64 (p : Int)] W fun r w' => r = .returned (.string (s.extract (p + h.size) (p + h.size + h.len))) ∧ Below W.heap.size W w') := fun W => content_any s h (d : Int) p W hp h1 h2 h3
 by_cases hm : h.made = true
 ·have hv : Hid (ndA (ndOf s (p, h, d)) = .agg #[.int .i64 (d : Int), .int .i64 (h.cls : Int), .bool true, .int .i64 (h.tag : Int), .string ⟨#[]⟩]) := by
   unfold Hid ndA ndOf
   simp only [hm, if_true]
  rw [hv.out]
  obtain ⟨c, md, t, ln, sz⟩ := h
  dsimp only at hm
  subst hm
  clear hv hC hp h1 h2 h3
  go_enter Tryz.func174, Tryz.ntmps174
  go_wp2_with fail
  refine bodyPost_ret_by (v := .agg #[.int .i64 (d : Int), .int .i64 (c : Int), .bool true, .int .i64 (t : Int), .string ⟨#[]⟩]) ?_ rfl ⟨rfl, ?_⟩
  ·simp [results, Tryz.results174, go_sem]
  ·repeat' first | exact Below.refl _ _ | refine Below.setCell ?_ (by first | (simp; done) | (simp; omega)) _ | refine Below.alloc ?_ (by first | (simp; done) | (simp; omega)) _
 ·have hmf : h.made = false := by simpa using hm
  obtain ⟨X, hX⟩ : ∃ X, s.extract (p + h.size) (p + h.size + h.len) = X := ⟨_, rfl⟩
  have hv : Hid (ndA (ndOf s (p, h, d)) = .agg #[.int .i64 (d : Int), .int .i64 (h.cls : Int), .bool false, .int .i64 (h.tag : Int), .string X]) := by
   unfold Hid ndA ndOf
   simp only [hmf, ← hX]
   rfl
  rw [hv.out]
  rw [hX] at hC
  obtain ⟨c, md, t, ln, sz⟩ := h
  dsimp only at hmf
  subst hmf
  clear hv hp h1 h2 h3 hX hm
  go_enter Tryz.func174, Tryz.ntmps174
  go_wp2_with fail
  refine (hC _).out.mono ?_
  rintro r w1 ⟨rfl, hb⟩
  have n0 : w.heap.size + 2 < w1.heap.size := by have := hb.size; simp at this; omega
  have n1 : w.heap.size + 1 < w1.heap.size := by omega
  have n1' : w.heap.size + 1 + 1 < w1.heap.size := by omega
  have c0 : w1.cell? ⟨w.heap.size + 1, 0, none⟩ = some (.int .i64 0) := by rw [hb.cell (by simp)]; simp [go_sem]
  have f0 : w1.frozen? ⟨w.heap.size + 1, 0, none⟩ = false := by rw [hb.frozen (by simp)]; simp [go_sem]
  have e0 : w1.cell? ⟨w.heap.size + 1 + 1, 0, none⟩ = some (.int .i64 (d : Int)) := by rw [hb.cell (by simp)]; simp [go_sem]
  have z0 : w1.frozen? ⟨w.heap.size + 1 + 1, 0, none⟩ = false := by rw [hb.frozen (by simp)]; simp [go_sem]
  have c1 : w1.cell? ⟨w.heap.size + 1, 1, none⟩ = some (.int .i64 0) := by rw [hb.cell (by simp)]; simp [go_sem]
  have f1 : w1.frozen? ⟨w.heap.size + 1, 1, none⟩ = false := by rw [hb.frozen (by simp)]; simp [go_sem]
  have e1 : w1.cell? ⟨w.heap.size + 1 + 1, 1, none⟩ = some (.int .i64 (c : Int)) := by rw [hb.cell (by simp)]; simp [go_sem]
  have z1 : w1.frozen? ⟨w.heap.size + 1 + 1, 1, none⟩ = false := by rw [hb.frozen (by simp)]; simp [go_sem]
  have c2 : w1.cell? ⟨w.heap.size + 1, 2, none⟩ = some (.bool false) := by rw [hb.cell (by simp)]; simp [go_sem]
  have f2 : w1.frozen? ⟨w.heap.size + 1, 2, none⟩ = false := by rw [hb.frozen (by simp)]; simp [go_sem]
  have e2 : w1.cell? ⟨w.heap.size + 1 + 1, 2, none⟩ = some (.bool false) := by rw [hb.cell (by simp)]; simp [go_sem]
  have z2 : w1.frozen? ⟨w.heap.size + 1 + 1, 2, none⟩ = false := by rw [hb.frozen (by simp)]; simp [go_sem]
  have c3 : w1.cell? ⟨w.heap.size + 1, 3, none⟩ = some (.int .i64 0) := by rw [hb.cell (by simp)]; simp [go_sem]
  have f3 : w1.frozen? ⟨w.heap.size + 1, 3, none⟩ = false := by rw [hb.frozen (by simp)]; simp [go_sem]
  have e3 : w1.cell? ⟨w.heap.size + 1 + 1, 3, none⟩ = some (.int .i64 (t : Int)) := by rw [hb.cell (by simp)]; simp [go_sem]
  have z3 : w1.frozen? ⟨w.heap.size + 1 + 1, 3, none⟩ = false := by rw [hb.frozen (by simp)]; simp [go_sem]
  have c4 : w1.cell? ⟨w.heap.size + 1, 4, none⟩ = some (.string ⟨#[]⟩) := by rw [hb.cell (by simp)]; simp [go_sem]
  have f4 : w1.frozen? ⟨w.heap.size + 1, 4, none⟩ = false := by rw [hb.frozen (by simp)]; simp [go_sem]
  have e4 : w1.cell? ⟨w.heap.size + 1 + 1, 4, none⟩ = some (.string ⟨#[]⟩) := by rw [hb.cell (by simp)]; simp [go_sem]
  have z4 : w1.frozen? ⟨w.heap.size + 1 + 1, 4, none⟩ = false := by rw [hb.frozen (by simp)]; simp [go_sem]
  have HB : Below w.heap.size w w1 := ((((Below.refl _ _).alloc (Nat.le_refl _) _).alloc (by simp) _).alloc (by simp; omega) _).trans (hb.mono (by simp; omega))
  clear hb
  go_wp2_with fail
  refine bodyPost_ret_by (v := .agg #[.int .i64 (d : Int), .int .i64 (c : Int), .bool false, .int .i64 (t : Int), .string X]) ?_ rfl ⟨rfl, ?_⟩
  ·simp [results, Tryz.results174, go_sem, c0, c1, c2, c3, c4]
  ·repeat' first | exact HB | refine Below.setCell ?_ (by first | exact Nat.le_succ _ | exact Nat.le_add_right _ 2) _
end Go.Proofs.YtkknenmpdimdbaaGreatDoor
