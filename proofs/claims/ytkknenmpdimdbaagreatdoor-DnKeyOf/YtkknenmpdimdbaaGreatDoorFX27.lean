import Derived.RangeFuncNested
import Derived.RangeFuncBound
import Derived.RangeFuncCalls
import Derived.RangeFuncLeaves
import Derived.RangeFuncBox
import Derived.Shelf.Abstract
import Derived.Shelf.RegionOpen
import Derived.WalkKit
import Derived.OwnWalkIn
import Derived.TacticsInMore
import Derived.LoopNIn
import Derived.LoopIn
import Derived.OrdersHeld
import Derived.Test.YtkknenmpdimdbaaGreatDoorBytes
import Derived.Test.YtkknenmpdimdbaaGreatDoorFX8
import Derived.Deep.OwnRows
namespace Go.Proofs.YtkknenmpdimdbaaGreatDoor
namespace BtSeq
open Go.RowKit Go.Shelf
set_option linter.unusedVariables false
def SeqP {α : Type} (n : Nat) (P : Program) (g : Nat) (lb : Array Value) (encs : α → Array Value) (Kp : World → World → Prop) (L : List α) (r : Option (List PanicEntry)) (w : World) : Prop :=
 ∀ (l : Nat) (J Jx : List α → World → Prop) (W : World), Below w.heap.size w W → OwnFrom W.heap.size J → OwnFrom W.heap.size Jx →
  (∀ pre x W1, J pre W1 → (pre ++ [x]) <+: L → YieldAt Fence.wide (n - 1) P l (encs x) W1 fun e W' => KeepsFrom W.heap.size W1 W' ∧ Kp W1 W' ∧
   ((e = .returned (.bool true) ∧ J (pre ++ [x]) W') ∨ (e = .returned (.bool false) ∧ Jx (pre ++ [x]) W'))) →
  J [] W →
  CallsIn Fence.wide n P g (#[.func (.yield l) #[] #[]] ++ lb) W fun e W' =>
   ((∃ v, e = .returned v) ∧ r = none ∧ J L W') ∨ ((∃ v, e = .returned v) ∧ ∃ pre, pre <+: L ∧ Jx pre W') ∨ (∃ ch, r = some ch ∧ e = .panicked ch ∧ J L W')
def postP {α : Type} (B : Nat) (Kp : World → World → Prop) (I : List α → World → Prop) (Ix : Code → List α → World → Prop) (xs : List α) (W : World) : Exit → Act → World → Prop
 | .normal, _, W' => KeepsFrom B W W' ∧ Kp W W' ∧ I xs W'
 | .ret, _, W' => KeepsFrom B W W' ∧ Kp W W' ∧ Ix .ret xs W'
 | .exit id, _, W' => KeepsFrom B W W' ∧ Kp W W' ∧ Ix (.exit id) xs W'
 | .goto t, _, W' => KeepsFrom B W W' ∧ Kp W W' ∧ Ix (.goto t) xs W'
 | .panic _, _, _ => False
 | .outgrown, _, _ => False
theorem postP_shut {α : Type} {B : Nat} {Kp : World → World → Prop} {I : List α → World → Prop} {Ix : Code → List α → World → Prop} {xs : List α} {W : World} : ¬ LetsOut (postP B Kp I Ix xs W) := fun ⟨_, _, h⟩ => h
theorem range_p {n : Nat} {P : Program} {α : Type} {g : Operand} {ps : Array Tmp} {assign body : Code} {Q : Exit → Act → World → Prop} {a : Act} {w : World}
  (h1 : 1 ≤ n) {gf : Nat} {lb : Array Value} (hg : a.eval g = .func (.func gf) #[] lb) (eg : ∀ args w, (callFunc gf args).run P w = .ok (.enter gf args) w)
  {encs : α → Array Value} {Kp : World → World → Prop} {L : List α} {r : Option (List PanicEntry)} {w0 : World} (hseq : SeqP (n - 1) P gf lb encs Kp L r w0)
  (hKt : ∀ {A B C : World}, Kp A B → Kp B C → Kp A C) (hKb : ∀ (W : World) (l : Nat) (o o' : Obj), w.heap.size ≤ l → W.heap[l]? = some o → o.isCells = false → o.isWalk = false → Kp W (W.putObj l o'))
  (hb0 : Below w0.heap.size w0 w) (hps : ∀ x, (encs x).size = ps.size)
  (I : List α → World → Prop) (Ix : Code → List α → World → Prop) (hI : OwnFrom w.heap.size I) (hIx : ∀ c, OwnFrom w.heap.size (Ix c)) (h0 : I [] w)
  (Ax : α → Act → World → Prop) (hAx : ∀ x a', OwnFrom w.heap.size (fun (_ : Unit) W => Ax x a' W))
  (hassign : ∀ (l : Nat) (pre : List α) (x : α) (W : World) (K : Act → World → Prop), I pre W → (pre ++ [x]) <+: L → (∀ a' W', KeepsFrom w.heap.size W W' → Kp W W' → I pre W' → Ax x a' W' → K a' W') →
   assign.wpIn (Fence.wide.inRound l) (n - 1 - 1) P (Exit.then K (fun _ _ _ => False)) { tmps := (ps.zip (encs x)).foldl (fun t (p, v) => t.setIfInBounds p v) a.tmps, defers := [] } W)
  (hbody : ∀ (l : Nat) (pre : List α) (x : α) (a' : Act) (W : World), w.heap.size ≤ l → (∃ r, W.heap[l]? = some (.loop r)) → I pre W → Ax x a' W → (pre ++ [x]) <+: L → body.wpIn (Fence.wide.inRound l) (n - 1 - 1) P (postP w.heap.size Kp I Ix (pre ++ [x]) W) a' W)
  (hdone : ∀ (D : Nat) (W : World), w.heap.size ≤ D → r = none → I L W → W.heap[D]? = some (.deferred (some [])) → Q .normal { a with defers := { target := .collected D, args := #[] } :: a.defers } W)
  (hstop : ∀ (D : Nat) (c : Code) (pre : List α) (W : World), w.heap.size ≤ D → pre <+: L → Ix c pre W → W.heap[D]? = some (.deferred (some [])) → c.wpIn Fence.wide n P Q { a with defers := { target := .collected D, args := #[] } :: a.defers } W)
  (hpanic : ∀ (D : Nat) (ch : List PanicEntry) (W : World), w.heap.size ≤ D → r = some ch → I L W → W.heap[D]? = some (.deferred (some [])) → Q (.panic ch) { a with defers := { target := .collected D, args := #[] } :: a.defers } W) :
  (Code.rangeFunc g ps assign body).wpIn Fence.wide n P Q a w := by
 refine wpIn_rangeFunc (fun fn hfn => ?_)
 obtain ⟨R, hR⟩ : ∃ R : LoopState → Option Code → Loop, R = fun s p => { state := s, pending := p, fn, tmps := a.tmps, params := ps, assign, body, defers := w.heap.size } := ⟨_, rfl⟩
 let V : World := (w.alloc (.deferred (some []))).alloc (.loop (R .ready none))
 have vs : V.heap.size = w.heap.size + 2 := by simp [V]
 have hbV : Below w.heap.size w V := ((Below.refl _ w).alloc (Nat.le_refl _) _).alloc (by simp) _
 have vl : V.heap[w.heap.size + 1]? = some (.loop (R .ready none)) := by
  have := World.alloc_heap_new (w.alloc (.deferred (some []))) (.loop (R .ready none))
  rwa [World.size_alloc] at this
 have vd : V.heap[w.heap.size]? = some (.deferred (some [])) := (Below.heap_alloc _ _ _ (by simp)).trans (World.alloc_heap_new w _)
 have hent : (Instr.enterLoop fn a.tmps ps assign body Fence.wide.round).run P w = .ok (w.heap.size + 1, [{ target := .collected w.heap.size, args := #[] }]) V := by
  have := run_enterLoop_outer (P := P) (w := w) fn a.tmps ps assign body
  rw [show Fence.wide.round = none from rfl, this]
  show _ = Result.ok _ ((w.alloc (.deferred (some []))).alloc (.loop (R .ready none)))
  rw [hR]
 refine ⟨w.heap.size + 1, [{ target := .collected w.heap.size, args := #[] }], V, { target := .fn (.func gf) lb, args := #[.func (.yield (w.heap.size + 1)) #[] #[]] }, V, gf, #[.func (.yield (w.heap.size + 1)) #[] #[]] ++ lb, V, hent, ?_, fun _ _ => trivial, ?_, fun _ => h1, ?_⟩
 ·simp only [resolve, hg]
  simp [go_sem]
 ·simp [invoke, go_sem, eg]
 have up : ∀ {row : Option Nat} {A : World}, (∀ q, row = some q → V.heap.size ≤ q ∧ ∃ o : Obj, A.heap[q]? = some o ∧ o.isCells = false) → ∀ q, row = some q → w.heap.size ≤ q ∧ ∃ o : Obj, A.heap[q]? = some o ∧ o.isCells = false := fun h q e => ⟨by have := (h q e).1; omega, (h q e).2⟩
 have stands : ∀ {row : Option Nat} {A B : World} {k : Nat} {o : Obj}, A.grownBy B row → (∀ q, row = some q → V.heap.size ≤ q ∧ ∃ o : Obj, A.heap[q]? = some o ∧ o.isCells = false) → A.heap[k]? = some o → k < V.heap.size → B.heap[k]? = some o := fun hg hr hk hlt =>
  (hg.block _ (Array.getElem?_eq_some_iff.1 hk).1 (fun e => by have := (hr _ e.symm).1; omega)).trans hk
 refine (hseq (w.heap.size + 1)
  (fun pre W => I pre W ∧ W.heap[w.heap.size + 1]? = some (.loop (R .ready none)) ∧ W.heap[w.heap.size]? = some (.deferred (some [])))
  (fun pre W => ∃ c, Ix c pre W ∧ W.heap[w.heap.size + 1]? = some (.loop (R .done (some c))) ∧ W.heap[w.heap.size]? = some (.deferred (some [])))
  V (hb0.trans (hbV.mono hb0.size)) (fun s A B row hs hg hr => ⟨hI s A B row hs.1 hg (up hr), stands hg hr hs.2.1 (by omega), stands hg hr hs.2.2 (by omega)⟩)
  (fun s A B row hs hg hr => by
   obtain ⟨c, q1, q2, q3⟩ := hs
   exact ⟨c, hIx c s A B row q1 hg (up hr), stands hg hr q2 (by omega), stands hg hr q3 (by omega)⟩) ?round ⟨hI.alloc _ (hI.alloc _ h0), vl, vd⟩).mono ?behind
 case behind =>
  rintro e U (⟨⟨v, rfl⟩, hr, q1, q2, q3⟩ | ⟨⟨v, rfl⟩, pre, hp, c, q1, q2, q3⟩ | ⟨ch, hr, rfl, q1, q2, q3⟩)
  ·have he := run_endLoop (P := P) q2 (by rw [hR]; simp)
   rw [hR] at he
   exact ⟨none, _, he, hdone _ _ (Nat.le_refl _) hr (hI.putObj _ q1 (by omega) q2 rfl) ((World.putObj_heap_other (by omega)).trans q3)⟩
  ·have he := run_endLoop (P := P) q2 (by rw [hR]; simp)
   rw [hR] at he
   exact ⟨some c, _, he, hstop _ c pre _ (Nat.le_refl _) hp ((hIx c).putObj _ q1 (by omega) q2 rfl) ((World.putObj_heap_other (by omega)).trans q3)⟩
  ·exact hpanic _ ch _ (Nat.le_refl _) hr q1 q3
 case round =>
  rintro pre x U ⟨u1, u2, u3⟩ hpx
  have hy := run_yield (P := P) (args := encs x) u2 (by rw [hR]; exact hps x)
  rw [hR] at hy
  refine ⟨fn, _, assign, body, hy, roundIn_of_wpIn hfn (hassign _ pre x U _ u1 hpx ?_)⟩
  clear hy
  intro a' U0 hk0 hkp0 i0 ax0
  have us0 : w.heap.size + 1 < U.heap.size := (Array.getElem?_eq_some_iff.1 u2).1
  have u2' : U0.heap[w.heap.size + 1]? = some (.loop (R .ready none)) := hk0.same _ _ (by omega) u2 rfl
  have u3' : U0.heap[w.heap.size]? = some (.deferred (some [])) := hk0.same _ _ (Nat.le_refl _) u3 rfl
  have us : w.heap.size + 1 < U0.heap.size := (Array.getElem?_eq_some_iff.1 u2').1
  refine ⟨_, run_beginRound u2' (by rw [hR]), ?_⟩
  obtain ⟨U1, hU1⟩ : ∃ U1, U0.putObj (w.heap.size + 1) (.loop { R .ready none with state := .busy }) = U1 := ⟨_, rfl⟩
  have b1 : U1.heap[w.heap.size + 1]? = some (.loop { R .ready none with state := .busy }) := by rw [← hU1]; exact World.putObj_heap_same us
  have b2 : U1.heap[w.heap.size]? = some (.deferred (some [])) := by rw [← hU1]; exact (World.putObj_heap_other (by omega)).trans u3'
  have b3 : I pre U1 := by rw [← hU1]; exact hI.putObj _ i0 (by omega) u2' rfl
  have b3' : Ax x a' U1 := by rw [← hU1]; exact (hAx x a').putObj (s := ()) _ ax0 (by omega) u2' rfl
  have b4 : Kp U0 U1 := by rw [← hU1]; exact hKb _ _ _ _ (by omega) u2' rfl rfl
  rw [hU1]
  refine wpIn_mono (hbody _ pre x a' U1 (by omega) ⟨_, b1⟩ b3 b3' hpx) ?_
  have fin : ∀ (j : Option Code) (U2 : World), KeepsFrom w.heap.size U1 U2 → U2.heap[w.heap.size + 1]? = some (.loop { R .ready none with state := .busy }) ∧
    (Instr.endRound (w.heap.size + 1) j).run P U2 = .ok (.bool j.isNone) (U2.putObj (w.heap.size + 1) (.loop (R (if j.isNone then .ready else .done) j))) ∧
    (U2.putObj (w.heap.size + 1) (.loop (R (if j.isNone then .ready else .done) j))).heap[w.heap.size + 1]? = some (.loop (R (if j.isNone then .ready else .done) j)) ∧
    (U2.putObj (w.heap.size + 1) (.loop (R (if j.isNone then .ready else .done) j))).heap[w.heap.size]? = some (.deferred (some [])) := fun j U2 hk => by
   have c1 := hk.same _ _ (by omega) b1 rfl
   have c2 := hk.same _ _ (Nat.le_refl _) b2 rfl
   have c3 := run_endRound (P := P) j c1
   refine ⟨c1, ?_, World.putObj_heap_same (Array.getElem?_eq_some_iff.1 c1).1, (World.putObj_heap_other (by omega)).trans c2⟩
   rw [hR] at c3 ⊢
   exact c3
  have kf : ∀ (o' : Obj) (U2 : World), KeepsFrom w.heap.size U1 U2 → KeepsFrom V.heap.size U (U2.putObj (w.heap.size + 1) o') := fun o' U2 hk => by
   have s0 := hk0.size
   have s1 : U1.heap.size = U0.heap.size := by rw [← hU1]; simp [World.putObj]
   have s2 := hk.size
   refine ⟨by simp only [World.putObj, Array.size_setIfInBounds]; omega, fun k o hk1 hk2 hk3 => ?_⟩
   have e0 : U0.heap[k]? = some o := hk0.same k o (by omega) hk2 hk3
   have e1 : U1.heap[k]? = some o := by rw [← hU1]; exact (World.putObj_heap_other (by omega)).trans e0
   exact (World.putObj_heap_other (by omega)).trans (hk.same k o (by omega) e1 hk3)
  rintro e a3 U2 hp
  cases e with
  | normal =>
   obtain ⟨c0, c1, c2⟩ := fin none U2 hp.1
   exact ⟨_, _, c1, kf _ _ hp.1, hKt (hKt (hKt hkp0 b4) hp.2.1) (hKb _ _ _ _ (by omega) c0 rfl rfl), .inl ⟨rfl, hI.putObj _ hp.2.2 (by omega) c0 rfl, c2⟩⟩
  | ret =>
   obtain ⟨c0, c1, c2⟩ := fin (some .ret) U2 hp.1
   exact ⟨_, _, c1, kf _ _ hp.1, hKt (hKt (hKt hkp0 b4) hp.2.1) (hKb _ _ _ _ (by omega) c0 rfl rfl), .inr ⟨rfl, _, (hIx _).putObj _ hp.2.2 (by omega) c0 rfl, c2⟩⟩
  | exit i =>
   obtain ⟨c0, c1, c2⟩ := fin (some (.exit i)) U2 hp.1
   exact ⟨_, _, c1, kf _ _ hp.1, hKt (hKt (hKt hkp0 b4) hp.2.1) (hKb _ _ _ _ (by omega) c0 rfl rfl), .inr ⟨rfl, _, (hIx _).putObj _ hp.2.2 (by omega) c0 rfl, c2⟩⟩
  | goto t =>
   obtain ⟨c0, c1, c2⟩ := fin (some (.goto t)) U2 hp.1
   exact ⟨_, _, c1, kf _ _ hp.1, hKt (hKt (hKt hkp0 b4) hp.2.1) (hKb _ _ _ _ (by omega) c0 rfl rfl), .inr ⟨rfl, _, (hIx _).putObj _ hp.2.2 (by omega) c0 rfl, c2⟩⟩
  | panic c => exact hp.elim
  | outgrown => exact hp.elim
theorem ops_round {l n : Nat} {P : Program} {ops : Array Oper} {Q : Exit → Act → World → Prop} (hnd : ∀ (i : Nat) (o : Oper), ops[i]? = some o → ∀ c, o.op ≠ .defer c) (hno : ¬ LetsOut Q) :
  ∀ (order : List Nat) (a : Act) (w : World), wpOps P ops Q order a w → wpOpsIn (Fence.wide.inRound l) n P ops Q order a w := by
 intro order
 induction order with
 | nil => intro a w h; exact h
 | cons i rest ih =>
  intro a w h
  cases ho : ops[i]? with
  | none =>
   simp only [wpOps, ho] at h
   simp only [wpOpsIn, ho]
   exact ih a w h
  | some o =>
   simp only [wpOps, ho] at h
   simp only [wpOpsIn, ho]
   split
   ·rename_i hw
    simp only [hw, if_true] at h
    rcases h with h | ⟨_, h⟩
    ·refine ⟨fun _ _ => trivial, ?_⟩
     rw [Oper.semAt_eq _ _ _ (hnd i o ho)]
     unfold Oper.wp at h
     generalize (execOp a.eval o).run P w = res at *
     cases res with
     | ok x w' =>
      cases x <;> simp only [Oper.upon, Oper.uponIn] at h ⊢
      case value v => exact ih _ _ h
      case skip => exact ih _ _ h
      case defer d => exact ih _ _ h
      case enter f args =>
       refine ⟨fun h => by simp [Fence.wide, Fence.inRound] at h, CallsIn.inRound l (callsIn_wide.2 (h.mono ?_))⟩
       intro e w'' he
       cases e with
       | returned v => exact ih _ _ he
       | panicked c => exact he
       | outgrown => exact he
      case row row args =>
       refine ⟨fun h => by simp [Fence.wide, Fence.inRound] at h, ?_⟩
       intro c cs _
       obtain ⟨v, w'', hv, hs⟩ := h c cs
       exact ⟨v, w'', ih _ _ hv, stepsIn_wide.2 hs⟩
     | halt x w' => cases x <;> simp only [Oper.upon, Oper.uponIn] at h ⊢ <;> exact h
    ·exact absurd h hno
   ·rename_i hw
    simp only [hw] at h
    exact ⟨fun _ _ => trivial, ih _ _ h⟩
theorem region_round {l n id : Nat} {P : Program} {ops : Array Oper} {Q : Exit → Act → World → Prop} {S : World → Prop} {a : Act} {w : World} (hm : P.follows .mixedOrders = true) (hnd : ∀ (i : Nat) (o : Oper), ops[i]? = some o → ∀ c, o.op ≠ .defer c) (hno : ¬ LetsOut Q)
  (hS : S w.drew) (h : S w.drew → wpAnyH P .any ops Q S ops.size (Array.replicate ops.size false) a w.drew) : (Code.region id ops true).wpIn (Fence.wide.inRound l) n P Q a w :=
 wpIn_region_draw fun t => ops_round hnd hno _ _ _ (by
  simp only [Region.schedule, hm, Bool.true_or, if_true]
  exact wpAny_sound ops.size t _ a _ (wpAny_of_held _ _ _ _ (h hS)))
end BtSeq
end Go.Proofs.YtkknenmpdimdbaaGreatDoor

namespace Go.Proofs.YtkknenmpdimdbaaGreatDoor
namespace BerMath
structure Hd where
 cls : Nat
 made : Bool
 tag : Nat
 len : Nat
 size : Nat
abbrev HR := Except (Option (Nat × Nat)) Hd
abbrev HR.er (code pos : Nat) : HR := .error (some (code, pos))
abbrev HR.miss : HR := .error none
theorem er_inj {a b c q : Nat} (h : HR.er a b = HR.er c q) : a = c ∧ b = q := by
 injection h with h
 injection h with h
 injection h with h1 h2
 exact ⟨h1, h2⟩
def num (v : Nat) (l : List UInt8) : Nat := l.foldl (fun n b => n * 256 + b.toNat) v
theorem num_snoc (v : Nat) (l : List UInt8) (b : UInt8) : num v (l ++ [b]) = num v l * 256 + b.toNat := by simp [num]
theorem num_lt (l : List UInt8) : num 0 l < 256 ^ l.length := by
 have key : ∀ (l : List UInt8) (v : Nat), num v l < (v + 1) * 256 ^ l.length := by
  intro l
  induction l with
  | nil => intro v; simp [num]
  | cons x l ih =>
   intro v
   have h := ih (v * 256 + x.toNat)
   have hx := x.toNat_lt
   have e : num v (x :: l) = num (v * 256 + x.toNat) l := rfl
   rw [e, List.length_cons, Nat.pow_succ]
   refine Nat.lt_of_lt_of_le h ?_
   have : v * 256 + x.toNat + 1 ≤ (v + 1) * 256 := by omega
   calc (v * 256 + x.toNat + 1) * 256 ^ l.length ≤ ((v + 1) * 256) * 256 ^ l.length := Nat.mul_le_mul_right _ this
    _ = (v + 1) * (256 ^ l.length * 256) := by rw [Nat.mul_assoc, Nat.mul_comm 256]
 have := key l 0
 simpa using this
def hAt (b : List UInt8) (p e : Nat) : HR :=
 if e ≤ p then HR.miss
 else if (b.getD p 0).toNat % 32 = 31 then HR.er 21 p
 else if e ≤ p + 1 then HR.miss
 else if (b.getD (p + 1) 0).toNat = 128 then HR.er 22 (p + 1)
 else if 132 < (b.getD (p + 1) 0).toNat then HR.er 23 (p + 1)
 else if (b.getD (p + 1) 0).toNat < 128 then .ok ⟨(b.getD p 0).toNat / 64, decide ((b.getD p 0).toNat / 32 % 2 = 1), (b.getD p 0).toNat % 32, (b.getD (p + 1) 0).toNat, 2⟩
 else if e < p + ((b.getD (p + 1) 0).toNat - 126) then HR.miss
 else .ok ⟨(b.getD p 0).toNat / 64, decide ((b.getD p 0).toNat / 32 % 2 = 1), (b.getD p 0).toNat % 32, num 0 ((b.drop (p + 2)).take ((b.getD (p + 1) 0).toNat - 128)), (b.getD (p + 1) 0).toNat - 126⟩
end BerMath
end Go.Proofs.YtkknenmpdimdbaaGreatDoor

namespace Go.Proofs.YtkknenmpdimdbaaGreatDoor
namespace BerMath
def lo (n : Int) : UInt8 := UInt8.ofNat (n % 256).toNat
theorem lo_eq (n : Int) (b : UInt8) (h : n % 256 = (b.toNat : Int)) : lo n = b := by
 unfold lo
 rw [h]
 simp
def sz (n : Int) : Nat :=
 if -128 ≤ n ∧ n ≤ 127 then 1 else if -32768 ≤ n ∧ n ≤ 32767 then 2 else if -8388608 ≤ n ∧ n ≤ 8388607 then 3 else if -2147483648 ≤ n ∧ n ≤ 2147483647 then 4
 else if -549755813888 ≤ n ∧ n ≤ 549755813887 then 5 else if -140737488355328 ≤ n ∧ n ≤ 140737488355327 then 6 else if -36028797018963968 ≤ n ∧ n ≤ 36028797018963967 then 7 else 8
def be : Nat → Int → List UInt8
 | 0, _ => []
 | k + 1, n => be k (n / 256) ++ [lo n]
def enc (n : Int) : List UInt8 := be (sz n) n
def sg (l : List UInt8) : Int := if 128 ≤ (l.getD 0 0).toNat then -1 else 0
def fo (v : Int) (l : List UInt8) : Int := l.foldl (fun n b => n * 256 + (b.toNat : Int)) v
def val (l : List UInt8) : Int := fo (sg l) l
def pad : List UInt8 → Bool
 | x :: y :: _ => decide (x.toNat = 0 ∧ y.toNat < 128) || decide (x.toNat = 255 ∧ 128 ≤ y.toNat)
 | _ => false
def okInt (l : List UInt8) : Bool := decide (1 ≤ l.length) && decide (l.length ≤ 8) && !pad l
end BerMath
end Go.Proofs.YtkknenmpdimdbaaGreatDoor

namespace Go.Proofs.YtkknenmpdimdbaaGreatDoor
open Go.RowKit
open BerMath (lo sz be enc sg fo val pad okInt)
theorem or_low (n : Int) (b : Nat) (hb : b < 256) (h1 : -36028797018963968 ≤ n) (h2 : n ≤ 36028797018963967) : bits .or .i64 (n * 256) (b : Int) = n * 256 + (b : Int) := by
 have e1 : (BitVec.ofInt 64 (b : Int)).toNat = b := by rw [BitVec.toNat_ofInt]; omega
 have e2 : (BitVec.ofInt 64 (n * 256)).toNat = (n % 72057594037927936).toNat <<< 8 := by
  rw [BitVec.toNat_ofInt, Nat.shiftLeft_eq]; omega
 have key : (BitVec.ofInt 64 (n * 256) ||| BitVec.ofInt 64 (b : Int)).toNat = (n % 72057594037927936).toNat * 256 + b := by
  rw [BitVec.toNat_or, e1, e2, ← Nat.shiftLeft_add_eq_or_of_lt (by omega), Nat.shiftLeft_eq]
 show IntKind.i64.wrap ((BitVec.ofInt 64 (n * 256) ||| BitVec.ofInt 64 (b : Int)).toNat : Nat) = _
 rw [key, IntKind.wrap_i64]
 omega
end Go.Proofs.YtkknenmpdimdbaaGreatDoor

namespace Go.Proofs.YtkknenmpdimdbaaGreatDoor
open Go.RowKit
open BerMath (Hd HR num hAt)
abbrev strV (s : ByteArray) (e m : Int) : Value := .agg #[.string s, .int .i64 e, .int .i64 m]
abbrev strO (s : ByteArray) (e m : Int) : Obj := .cells #[.string s, .int .i64 e, .int .i64 m] 250
abbrev gaveUp (c at_ : Int) : Ending := .panicked [{ v := .iface 238 (.agg #[.int .i64 c, .int .i64 at_]), recovered := false }]
theorem need_ok (s : ByteArray) (e m p n : Int) (w : World) (h : decide (e - p < n) = false) (hw : wrap64 (e - p) = e - p) :
  Calls Tryz.prog 186 #[strV s e m, .int .i64 p, .int .i64 n] w fun r w' => r = .returned (.tuple #[]) ∧ w' = w.alloc (strO s e m) := by
 go_enter Tryz.func186, Tryz.ntmps186
 go_wp2
 go_end0
 exact ⟨rfl, rfl⟩
theorem need_bad (s : ByteArray) (e m p n : Int) (w : World) (h : decide (e - p < n) = true) (hw : wrap64 (e - p) = e - p) :
  Calls Tryz.prog 186 #[strV s e m, .int .i64 p, .int .i64 n] w fun r w' => r = gaveUp m e ∧ w' = w.alloc (strO s e m) := by
 go_enter Tryz.func186, Tryz.ntmps186
 go_wp2
 exact ⟨rfl, rfl, rfl⟩
def lenR (b : List UInt8) (p e : Nat) (m : Int) : Ending :=
 if e ≤ p + 1 then gaveUp m e
 else if (b.getD (p + 1) 0).toNat = 128 then gaveUp 22 ((p : Int) + 1)
 else if 132 < (b.getD (p + 1) 0).toNat then gaveUp 23 ((p : Int) + 1)
 else if (b.getD (p + 1) 0).toNat < 128 then .returned (.tuple #[.int .i64 ((b.getD (p + 1) 0).toNat : Int), .int .i64 2])
 else if e < p + ((b.getD (p + 1) 0).toNat - 126) then gaveUp m e
 else .returned (.tuple #[.int .i64 (num 0 ((b.drop (p + 2)).take ((b.getD (p + 1) 0).toNat - 128)) : Int), .int .i64 (((b.getD (p + 1) 0).toNat - 126 : Nat) : Int)])
theorem drop_snoc (s : ByteArray) (q k : Nat) (h : q + k < s.size) : (s.data.toList.drop q).take (k + 1) = (s.data.toList.drop q).take k ++ [s[q + k]] := by
 have hl : (s.data.toList.drop q).length = s.size - q := by rw [List.length_drop, size_l]
 rw [List.take_succ_eq_append_getElem (by omega)]
 congr 2
 rw [List.getElem_drop]
 rfl
set_option maxRecDepth 100000 in
set_option maxHeartbeats 1000000 in
theorem length_any (s : ByteArray) (e p : Nat) (m : Int) (w : World) (he : e ≤ s.size) (hm : s.size ≤ 281474976710656) (hp : p < e) :
  Calls Tryz.prog 187 #[strV s (e : Int) m, .int .i64 (p : Int)] w fun r w' => r = lenR s.data.toList p e m ∧ Below w.heap.size w w' := by
 have hsub : wrap64 ((e : Int) - (p : Int)) = (e : Int) - (p : Int) := by unfold wrap64; omega
 have p0 : (0 : Int) ≤ (p : Int) := by omega
 have p1 : (p : Int) ≤ 281474976710656 := by omega
 have B1 : Below w.heap.size w ((w.alloc (strO s e m)).alloc (strO s e m)) := ((Below.refl _ _).alloc (Nat.le_refl _) _).alloc (by simp) _
 have B2 : Below w.heap.size w (((w.alloc (strO s e m)).alloc (strO s e m)).alloc (strO s e m)) := B1.alloc (by simp; omega) _
 unfold lenR
 by_cases h1 : e ≤ p + 1
 ·rw [if_pos h1]
  have d1 : decide ((e : Int) - (p : Int) < 2) = true := decide_eq_true (by omega)
  clear h1 hp he hm
  go_enter Tryz.func187, Tryz.ntmps187
  go_wp2_with (go_at_call 186; refine (need_bad _ _ _ _ _ _ d1 hsub).mono ?_; rintro r w1 ⟨rfl, rfl⟩)
  exact ⟨rfl, rfl, B1⟩
 rw [if_neg h1]
 have hq : p + 1 < s.size := by omega
 have d1 : decide ((e : Int) - (p : Int) < 2) = false := decide_eq_false (by omega)
 rw [getD_s s (p + 1) hq]
 obtain ⟨l, hl⟩ : ∃ l, s[p + 1].toNat = l := ⟨_, rfl⟩
 have hl256 : l < 256 := by rw [← hl]; exact s[p + 1].toNat_lt
 have hwl : wrap64 (s[p + 1].toNat : Int) = (l : Int) := by rw [hl]; unfold wrap64; omega
 have hwl' : Hid (wrap64 (s[p + 1].toNat : Int) = (l : Int)) := hwl
 have l0 : (0 : Int) ≤ (l : Int) := by omega
 have l1 : (l : Int) < 256 := by omega
 have q1 : (p : Int) + 1 < (s.size : Int) := by omega
 rw [hl]
 by_cases h2 : l = 128
 ·rw [if_pos h2]
  have d2 : ((l : Int) == 128) = true := by rw [beq_iff_eq]; omega
  have d3 : decide ((l : Int) < 128) = false := decide_eq_false (by omega)
  clear hl h2 h1
  go_enter Tryz.func187, Tryz.ntmps187
  go_wp2_with fail
  refine (need_ok _ _ _ _ _ _ d1 hsub).mono ?_
  rintro r w1 ⟨rfl, rfl⟩
  clear d1 hsub
  go_wp2_with fail
  exact ⟨rfl, rfl, B1⟩
 rw [if_neg h2]
 have d2 : ((l : Int) == 128) = false := by rw [beq_eq_false_iff_ne]; omega
 by_cases h3 : 132 < l
 ·rw [if_pos h3]
  have d3 : decide ((l : Int) < 128) = false := decide_eq_false (by omega)
  have d4 : decide ((132 : Int) < (l : Int)) = true := decide_eq_true (by omega)
  clear hl h2 h1 h3
  go_enter Tryz.func187, Tryz.ntmps187
  go_wp2_with fail
  refine (need_ok _ _ _ _ _ _ d1 hsub).mono ?_
  rintro r w1 ⟨rfl, rfl⟩
  clear d1 hsub
  go_wp2_with fail
  exact ⟨rfl, rfl, B1⟩
 rw [if_neg h3]
 by_cases h4 : l < 128
 ·rw [if_pos h4]
  have d3 : decide ((l : Int) < 128) = true := decide_eq_true (by omega)
  clear hl h2 h1 h3 h4
  go_enter Tryz.func187, Tryz.ntmps187
  go_wp2_with fail
  refine (need_ok _ _ _ _ _ _ d1 hsub).mono ?_
  rintro r w1 ⟨rfl, rfl⟩
  clear d1 hsub
  go_wp2_with fail
  go_ret2
  exact ⟨by rw [← hwl'.out]; rfl, B1⟩
 rw [if_neg h4]
 have d3 : decide ((l : Int) < 128) = false := decide_eq_false (by omega)
 have d4 : decide ((132 : Int) < (l : Int)) = false := decide_eq_false (by omega)
 obtain ⟨k, hk⟩ : ∃ k, l = 128 + k := ⟨l - 128, by omega⟩
 have hk4 : 1 ≤ k ∧ k ≤ 4 := by omega
 have e1 : l - 126 = k + 2 := by omega
 have e2 : l - 128 = k := by omega
 have e3 : 2 + (l : Int) - 128 = ((k + 2 : Nat) : Int) := by omega
 rw [e1, e2]
 by_cases h5 : e < p + (k + 2)
 ·rw [if_pos h5]
  have d5 : decide ((e : Int) - (p : Int) < ((k + 2 : Nat) : Int)) = true := decide_eq_true (by omega)
  clear hl h2 h1 h3 h4 h5 hk hk4 e1 e2
  go_enter Tryz.func187, Tryz.ntmps187
  go_wp2_with fail
  refine (need_ok _ _ _ _ _ _ d1 hsub).mono ?_
  rintro r w1 ⟨rfl, rfl⟩
  clear d1
  go_wp2_with fail
  refine (need_bad _ _ _ _ _ _ d5 hsub).mono ?_
  rintro r w1 ⟨rfl, rfl⟩
  exact ⟨rfl, rfl, B2⟩
 rw [if_neg h5]
 have d5 : decide ((e : Int) - (p : Int) < ((k + 2 : Nat) : Int)) = false := decide_eq_false (by omega)
 have hks : p + 2 + k ≤ s.size := by omega
 have k4 : k ≤ 4 := hk4.2
 clear hl h2 h1 h3 h4 h5 hk hk4 e1 e2
 have hK : Hid (∀ j (hj : j < k), num 0 ((s.data.toList.drop (p + 2)).take (j + 1)) = num 0 ((s.data.toList.drop (p + 2)).take j) * 256 + (s[p + 2 + j]'(by omega)).toNat) := fun j hj => by
  rw [drop_snoc s (p + 2) j (by omega), BerMath.num_snoc]
 have hN : Hid (∀ j, j < k → num 0 ((s.data.toList.drop (p + 2)).take j) < 16777216) := fun j hj => by
  have h := BerMath.num_lt ((s.data.toList.drop (p + 2)).take j)
  have hl : ((s.data.toList.drop (p + 2)).take j).length ≤ 3 := by rw [List.length_take]; omega
  have : 256 ^ ((s.data.toList.drop (p + 2)).take j).length ≤ 256 ^ 3 := Nat.pow_le_pow_right (by decide) hl
  have e : (256 : Nat) ^ 3 = 16777216 := by decide
  omega
 have pk : (p : Int) + ((k + 2 : Nat) : Int) = ((p + 2 + k : Nat) : Int) := by omega
 have pk2 : (p : Int) + 2 = ((p + 2 : Nat) : Int) := by omega
 have kk : ((k + 2 : Nat) : Int) ≤ 6 := by omega
 have kk0 : (0 : Int) ≤ ((k + 2 : Nat) : Int) := by omega
 have pwk : wrap64 ((p : Int) + ((k + 2 : Nat) : Int)) = ((p + 2 + k : Nat) : Int) := by unfold wrap64; omega
 have pw2 : wrap64 ((p : Int) + 2) = ((p + 2 : Nat) : Int) := by unfold wrap64; omega
 clear pk pk2
 go_enter Tryz.func187, Tryz.ntmps187
 go_wp2_with fail
 refine (need_ok _ _ _ _ _ _ d1 hsub).mono ?_
 rintro r w1 ⟨rfl, rfl⟩
 clear d1
 go_wp2_with fail
 refine (need_ok _ _ _ _ _ _ d5 hsub).mono ?_
 rintro r w1 ⟨rfl, rfl⟩
 clear d5
 go_wp2_with fail
 go_loopw [4, 7] (fun nv qv wr => ∃ (j : Nat), j ≤ k ∧ qv = .int .i64 ((p + 2 + j : Nat) : Int) ∧ nv = .int .i64 (num 0 ((s.data.toList.drop (p + 2)).take j) : Int) ∧ ((w.alloc (strO s e m)).alloc (strO s e m)).alloc (strO s e m) = wr) (fun _ qv _ => p + 2 + k - (intOf qv).toNat)
 case atStart => exact ⟨0, Nat.zero_le _, by go_num, rfl, rfl⟩
 case round =>
  obtain ⟨j, hj, rfl, rfl, rfl⟩ := hrel
  by_cases hlt : j < k
  ·have hst := hK.out j hlt
   have hn := hN.out j hlt
   have hb256 := (s[p + 2 + j]'(by omega)).toNat_lt
   have hor := or_low (num 0 ((s.data.toList.drop (p + 2)).take j) : Int) (s[p + 2 + j]'(by omega)).toNat hb256 (by omega) (by omega)
   have hsn : Hid ((num 0 ((s.data.toList.drop (p + 2)).take (j + 1)) : Int) = (num 0 ((s.data.toList.drop (p + 2)).take j) : Int) * 256 + ((s[p + 2 + j]'(by omega)).toNat : Int)) := by unfold Hid; omega
   have hw64 : wrap64 ((s[p + 2 + j]'(by omega)).toNat : Int) = ((s[p + 2 + j]'(by omega)).toNat : Int) := by unfold wrap64; omega
   have n0 : (0 : Int) ≤ (num 0 ((s.data.toList.drop (p + 2)).take j) : Int) := by omega
   have n1 : (num 0 ((s.data.toList.drop (p + 2)).take j) : Int) < 16777216 := by omega
   clear hst hn hb256 hK hN
   generalize (num 0 ((s.data.toList.drop (p + 2)).take j) : Int) = v at *
   have j0 : (0 : Int) ≤ ((p + 2 + j : Nat) : Int) := by omega
   have j1 : ((p + 2 + j : Nat) : Int) < (s.size : Int) := by omega
   have j2 : ((p + 2 + j : Nat) : Int) < ((p + 2 + k : Nat) : Int) := by omega
   go_wp2
   go_roundw
   case rel => exact ⟨j + 1, by omega, by go_num, by rw [hsn.out], trivial⟩
   case measure => simp [intOf]; omega
  ·have hjk : j = k := by omega
   subst hjk
   clear hK hN hlt
   go_wp2
   go_ret2
   exact ⟨rfl, B2⟩
end Go.Proofs.YtkknenmpdimdbaaGreatDoor
