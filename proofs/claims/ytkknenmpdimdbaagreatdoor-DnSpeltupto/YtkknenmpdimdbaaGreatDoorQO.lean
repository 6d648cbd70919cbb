import Derived.RangeFuncNested
import Derived.RangeFuncBound
import Derived.RangeFuncCalls
import Derived.RangeFuncLeaves
import Derived.RangeFuncBox
import Derived.Shelf.Abstract
import Derived.Shelf.RegionOpen
import Derived.WalkKit
import Derived.OwnWalkIn
import Derived.TacticsInMore
import Derived.LoopNIn
import Derived.LoopIn
import Derived.OrdersHeld
import Derived.Test.YtkknenmpdimdbaaGreatDoorQB
import Derived.Test.YtkknenmpdimdbaaGreatDoorQC
import Derived.Deep.OwnRows
namespace Go.Proofs.YtkknenmpdimdbaaGreatDoor
namespace BtSeq
open Go.RowKit Go.Shelf
set_option linter.unusedVariables false

/-- What an iterator says that gives the list L, and then ends, or gives up with the panic r. -/
def SeqP {α : Type} (n : Nat) (P : Program) (g : Nat) (lb : Array Value) (encs : α → Array Value) (Kp : World → World → Prop) (L : List α) (r : Option (List PanicEntry)) (w : World) : Prop :=
  ∀ (l : Nat) (J Jx : List α → World → Prop) (W : World), Below w.heap.size w W → OwnFrom W.heap.size J → OwnFrom W.heap.size Jx →
    (∀ pre x W1, J pre W1 → (pre ++ [x]) <+: L → YieldAt Fence.wide (n - 1) P l (encs x) W1 fun e W' => KeepsFrom W.heap.size W1 W' ∧ Kp W1 W' ∧
      ((e = .returned (.bool true) ∧ J (pre ++ [x]) W') ∨ (e = .returned (.bool false) ∧ Jx (pre ++ [x]) W'))) →
    J [] W →
    CallsIn Fence.wide n P g (#[.func (.yield l) #[] #[]] ++ lb) W fun e W' =>
      ((∃ v, e = .returned v) ∧ r = none ∧ J L W') ∨ ((∃ v, e = .returned v) ∧ ∃ pre, pre <+: L ∧ Jx pre W') ∨ (∃ ch, r = some ch ∧ e = .panicked ch ∧ J L W')

/-- What a round is to leave. -/
def postP {α : Type} (B : Nat) (Kp : World → World → Prop) (I : List α → World → Prop) (Ix : Code → List α → World → Prop) (xs : List α) (W : World) : Exit → Act → World → Prop
  | .normal, _, W' => KeepsFrom B W W' ∧ Kp W W' ∧ I xs W'
  | .ret, _, W' => KeepsFrom B W W' ∧ Kp W W' ∧ Ix .ret xs W'
  | .exit id, _, W' => KeepsFrom B W W' ∧ Kp W W' ∧ Ix (.exit id) xs W'
  | .goto t, _, W' => KeepsFrom B W W' ∧ Kp W W' ∧ Ix (.goto t) xs W'
  | .panic _, _, _ => False
  | .outgrown, _, _ => False
theorem postP_shut {α : Type} {B : Nat} {Kp : World → World → Prop} {I : List α → World → Prop} {Ix : Code → List α → World → Prop} {xs : List α} {W : World} : ¬ LetsOut (postP B Kp I Ix xs W) := fun ⟨_, _, h⟩ => h
/-- The caller's law for such an iterator. -/
theorem range_p {n : Nat} {P : Program} {α : Type} {g : Operand} {ps : Array Tmp} {assign body : Code} {Q : Exit → Act → World → Prop} {a : Act} {w : World}
    (h1 : 1 ≤ n) {gf : Nat} {lb : Array Value} (hg : a.eval g = .func (.func gf) #[] lb) (eg : ∀ args w, (callFunc gf args).run P w = .ok (.enter gf args) w)
    {encs : α → Array Value} {Kp : World → World → Prop} {L : List α} {r : Option (List PanicEntry)} {w0 : World} (hseq : SeqP (n - 1) P gf lb encs Kp L r w0)
    (hKt : ∀ {A B C : World}, Kp A B → Kp B C → Kp A C) (hKb : ∀ (W : World) (l : Nat) (o o' : Obj), w.heap.size ≤ l → W.heap[l]? = some o → o.isCells = false → o.isWalk = false → Kp W (W.putObj l o'))
    (hb0 : Below w0.heap.size w0 w) (hps : ∀ x, (encs x).size = ps.size)
    (I : List α → World → Prop) (Ix : Code → List α → World → Prop) (hI : OwnFrom w.heap.size I) (hIx : ∀ c, OwnFrom w.heap.size (Ix c)) (h0 : I [] w)
    (Ax : α → Act → World → Prop) (hAx : ∀ x a', OwnFrom w.heap.size (fun (_ : Unit) W => Ax x a' W))
    (hassign : ∀ (l : Nat) (pre : List α) (x : α) (W : World) (K : Act → World → Prop), I pre W → (pre ++ [x]) <+: L → (∀ a' W', KeepsFrom w.heap.size W W' → Kp W W' → I pre W' → Ax x a' W' → K a' W') →
      assign.wpIn (Fence.wide.inRound l) (n - 1 - 1) P (Exit.then K (fun _ _ _ => False)) { tmps := (ps.zip (encs x)).foldl (fun t (p, v) => t.setIfInBounds p v) a.tmps, defers := [] } W)
    (hbody : ∀ (l : Nat) (pre : List α) (x : α) (a' : Act) (W : World), w.heap.size ≤ l → (∃ r, W.heap[l]? = some (.loop r)) → I pre W → Ax x a' W → (pre ++ [x]) <+: L → body.wpIn (Fence.wide.inRound l) (n - 1 - 1) P (postP w.heap.size Kp I Ix (pre ++ [x]) W) a' W)
    (hdone : ∀ (D : Nat) (W : World), w.heap.size ≤ D → r = none → I L W → W.heap[D]? = some (.deferred (some [])) → Q .normal { a with defers := { target := .collected D, args := #[] } :: a.defers } W)
    (hstop : ∀ (D : Nat) (c : Code) (pre : List α) (W : World), w.heap.size ≤ D → pre <+: L → Ix c pre W → W.heap[D]? = some (.deferred (some [])) → c.wpIn Fence.wide n P Q { a with defers := { target := .collected D, args := #[] } :: a.defers } W)
    (hpanic : ∀ (D : Nat) (ch : List PanicEntry) (W : World), w.heap.size ≤ D → r = some ch → I L W → W.heap[D]? = some (.deferred (some [])) → Q (.panic ch) { a with defers := { target := .collected D, args := #[] } :: a.defers } W) :
    (Code.rangeFunc g ps assign body).wpIn Fence.wide n P Q a w := by
  refine wpIn_rangeFunc (fun fn hfn => ?_)
  obtain ⟨R, hR⟩ : ∃ R : LoopState → Option Code → Loop, R = fun s p => { state := s, pending := p, fn, tmps := a.tmps, params := ps, assign, body, defers := w.heap.size } := ⟨_, rfl⟩
  let V : World := (w.alloc (.deferred (some []))).alloc (.loop (R .ready none))
  have vs : V.heap.size = w.heap.size + 2 := by simp [V]
  have hbV : Below w.heap.size w V := ((Below.refl _ w).alloc (Nat.le_refl _) _).alloc (by simp) _
  have vl : V.heap[w.heap.size + 1]? = some (.loop (R .ready none)) := by
    have := World.alloc_heap_new (w.alloc (.deferred (some []))) (.loop (R .ready none))
    rwa [World.size_alloc] at this
  have vd : V.heap[w.heap.size]? = some (.deferred (some [])) := (Below.heap_alloc _ _ _ (by simp)).trans (World.alloc_heap_new w _)
  have hent : (Instr.enterLoop fn a.tmps ps assign body Fence.wide.round).run P w = .ok (w.heap.size + 1, [{ target := .collected w.heap.size, args := #[] }]) V := by
    have := run_enterLoop_outer (P := P) (w := w) fn a.tmps ps assign body
    rw [show Fence.wide.round = none from rfl, this]
    show _ = Result.ok _ ((w.alloc (.deferred (some []))).alloc (.loop (R .ready none)))
    rw [hR]
  refine ⟨w.heap.size + 1, [{ target := .collected w.heap.size, args := #[] }], V, { target := .fn (.func gf) lb, args := #[.func (.yield (w.heap.size + 1)) #[] #[]] }, V, gf, #[.func (.yield (w.heap.size + 1)) #[] #[]] ++ lb, V, hent, ?_, fun _ _ => trivial, ?_, fun _ => h1, ?_⟩
  · simp only [resolve, hg]
    simp [go_sem]
  · simp [invoke, go_sem, eg]
  have up : ∀ {row : Option Nat} {A : World}, (∀ q, row = some q → V.heap.size ≤ q ∧ ∃ o : Obj, A.heap[q]? = some o ∧ o.isCells = false) → ∀ q, row = some q → w.heap.size ≤ q ∧ ∃ o : Obj, A.heap[q]? = some o ∧ o.isCells = false := fun h q e => ⟨by have := (h q e).1; omega, (h q e).2⟩
  have stands : ∀ {row : Option Nat} {A B : World} {k : Nat} {o : Obj}, A.grownBy B row → (∀ q, row = some q → V.heap.size ≤ q ∧ ∃ o : Obj, A.heap[q]? = some o ∧ o.isCells = false) → A.heap[k]? = some o → k < V.heap.size → B.heap[k]? = some o := fun hg hr hk hlt =>
    (hg.block _ (Array.getElem?_eq_some_iff.1 hk).1 (fun e => by have := (hr _ e.symm).1; omega)).trans hk
  refine (hseq (w.heap.size + 1)
    (fun pre W => I pre W ∧ W.heap[w.heap.size + 1]? = some (.loop (R .ready none)) ∧ W.heap[w.heap.size]? = some (.deferred (some [])))
    (fun pre W => ∃ c, Ix c pre W ∧ W.heap[w.heap.size + 1]? = some (.loop (R .done (some c))) ∧ W.heap[w.heap.size]? = some (.deferred (some [])))
    V (hb0.trans (hbV.mono hb0.size)) (fun s A B row hs hg hr => ⟨hI s A B row hs.1 hg (up hr), stands hg hr hs.2.1 (by omega), stands hg hr hs.2.2 (by omega)⟩)
    (fun s A B row hs hg hr => by
      obtain ⟨c, q1, q2, q3⟩ := hs
      exact ⟨c, hIx c s A B row q1 hg (up hr), stands hg hr q2 (by omega), stands hg hr q3 (by omega)⟩) ?round ⟨hI.alloc _ (hI.alloc _ h0), vl, vd⟩).mono ?behind
  case behind =>
    rintro e U (⟨⟨v, rfl⟩, hr, q1, q2, q3⟩ | ⟨⟨v, rfl⟩, pre, hp, c, q1, q2, q3⟩ | ⟨ch, hr, rfl, q1, q2, q3⟩)
    · have he := run_endLoop (P := P) q2 (by rw [hR]; simp)
      rw [hR] at he
      exact ⟨none, _, he, hdone _ _ (Nat.le_refl _) hr (hI.putObj _ q1 (by omega) q2 rfl) ((World.putObj_heap_other (by omega)).trans q3)⟩
    · have he := run_endLoop (P := P) q2 (by rw [hR]; simp)
      rw [hR] at he
      exact ⟨some c, _, he, hstop _ c pre _ (Nat.le_refl _) hp ((hIx c).putObj _ q1 (by omega) q2 rfl) ((World.putObj_heap_other (by omega)).trans q3)⟩
    · exact hpanic _ ch _ (Nat.le_refl _) hr q1 q3
  case round =>
    rintro pre x U ⟨u1, u2, u3⟩ hpx
    have hy := run_yield (P := P) (args := encs x) u2 (by rw [hR]; exact hps x)
    rw [hR] at hy
    refine ⟨fn, _, assign, body, hy, roundIn_of_wpIn hfn (hassign _ pre x U _ u1 hpx ?_)⟩
    clear hy
    intro a' U0 hk0 hkp0 i0 ax0
    have us0 : w.heap.size + 1 < U.heap.size := (Array.getElem?_eq_some_iff.1 u2).1
    have u2' : U0.heap[w.heap.size + 1]? = some (.loop (R .ready none)) := hk0.same _ _ (by omega) u2 rfl
    have u3' : U0.heap[w.heap.size]? = some (.deferred (some [])) := hk0.same _ _ (Nat.le_refl _) u3 rfl
    have us : w.heap.size + 1 < U0.heap.size := (Array.getElem?_eq_some_iff.1 u2').1
    refine ⟨_, run_beginRound u2' (by rw [hR]), ?_⟩
    obtain ⟨U1, hU1⟩ : ∃ U1, U0.putObj (w.heap.size + 1) (.loop { R .ready none with state := .busy }) = U1 := ⟨_, rfl⟩
    have b1 : U1.heap[w.heap.size + 1]? = some (.loop { R .ready none with state := .busy }) := by rw [← hU1]; exact World.putObj_heap_same us
    have b2 : U1.heap[w.heap.size]? = some (.deferred (some [])) := by rw [← hU1]; exact (World.putObj_heap_other (by omega)).trans u3'
    have b3 : I pre U1 := by rw [← hU1]; exact hI.putObj _ i0 (by omega) u2' rfl
    have b3' : Ax x a' U1 := by rw [← hU1]; exact (hAx x a').putObj (s := ()) _ ax0 (by omega) u2' rfl
    have b4 : Kp U0 U1 := by rw [← hU1]; exact hKb _ _ _ _ (by omega) u2' rfl rfl
    rw [hU1]
    refine wpIn_mono (hbody _ pre x a' U1 (by omega) ⟨_, b1⟩ b3 b3' hpx) ?_
    have fin : ∀ (j : Option Code) (U2 : World), KeepsFrom w.heap.size U1 U2 → U2.heap[w.heap.size + 1]? = some (.loop { R .ready none with state := .busy }) ∧
        (Instr.endRound (w.heap.size + 1) j).run P U2 = .ok (.bool j.isNone) (U2.putObj (w.heap.size + 1) (.loop (R (if j.isNone then .ready else .done) j))) ∧
        (U2.putObj (w.heap.size + 1) (.loop (R (if j.isNone then .ready else .done) j))).heap[w.heap.size + 1]? = some (.loop (R (if j.isNone then .ready else .done) j)) ∧
        (U2.putObj (w.heap.size + 1) (.loop (R (if j.isNone then .ready else .done) j))).heap[w.heap.size]? = some (.deferred (some [])) := fun j U2 hk => by
      have c1 := hk.same _ _ (by omega) b1 rfl
      have c2 := hk.same _ _ (Nat.le_refl _) b2 rfl
      have c3 := run_endRound (P := P) j c1
      refine ⟨c1, ?_, World.putObj_heap_same (Array.getElem?_eq_some_iff.1 c1).1, (World.putObj_heap_other (by omega)).trans c2⟩
      rw [hR] at c3 ⊢
      exact c3
    have kf : ∀ (o' : Obj) (U2 : World), KeepsFrom w.heap.size U1 U2 → KeepsFrom V.heap.size U (U2.putObj (w.heap.size + 1) o') := fun o' U2 hk => by
      have s0 := hk0.size
      have s1 : U1.heap.size = U0.heap.size := by rw [← hU1]; simp [World.putObj]
      have s2 := hk.size
      refine ⟨by simp only [World.putObj, Array.size_setIfInBounds]; omega, fun k o hk1 hk2 hk3 => ?_⟩
      have e0 : U0.heap[k]? = some o := hk0.same k o (by omega) hk2 hk3
      have e1 : U1.heap[k]? = some o := by rw [← hU1]; exact (World.putObj_heap_other (by omega)).trans e0
      exact (World.putObj_heap_other (by omega)).trans (hk.same k o (by omega) e1 hk3)
    rintro e a3 U2 hp
    cases e with
    | normal =>
      obtain ⟨c0, c1, c2⟩ := fin none U2 hp.1
      exact ⟨_, _, c1, kf _ _ hp.1, hKt (hKt (hKt hkp0 b4) hp.2.1) (hKb _ _ _ _ (by omega) c0 rfl rfl), .inl ⟨rfl, hI.putObj _ hp.2.2 (by omega) c0 rfl, c2⟩⟩
    | ret =>
      obtain ⟨c0, c1, c2⟩ := fin (some .ret) U2 hp.1
      exact ⟨_, _, c1, kf _ _ hp.1, hKt (hKt (hKt hkp0 b4) hp.2.1) (hKb _ _ _ _ (by omega) c0 rfl rfl), .inr ⟨rfl, _, (hIx _).putObj _ hp.2.2 (by omega) c0 rfl, c2⟩⟩
    | exit i =>
      obtain ⟨c0, c1, c2⟩ := fin (some (.exit i)) U2 hp.1
      exact ⟨_, _, c1, kf _ _ hp.1, hKt (hKt (hKt hkp0 b4) hp.2.1) (hKb _ _ _ _ (by omega) c0 rfl rfl), .inr ⟨rfl, _, (hIx _).putObj _ hp.2.2 (by omega) c0 rfl, c2⟩⟩
    | goto t =>
      obtain ⟨c0, c1, c2⟩ := fin (some (.goto t)) U2 hp.1
      exact ⟨_, _, c1, kf _ _ hp.1, hKt (hKt (hKt hkp0 b4) hp.2.1) (hKb _ _ _ _ (by omega) c0 rfl rfl), .inr ⟨rfl, _, (hIx _).putObj _ hp.2.2 (by omega) c0 rfl, c2⟩⟩
    | panic c => exact hp.elim
    | outgrown => exact hp.elim

/-- Operations that hold no deferred call, walked plainly, are so walked in a round. -/
theorem ops_round {l n : Nat} {P : Program} {ops : Array Oper} {Q : Exit → Act → World → Prop} (hnd : ∀ (i : Nat) (o : Oper), ops[i]? = some o → ∀ c, o.op ≠ .defer c) (hno : ¬ LetsOut Q) :
    ∀ (order : List Nat) (a : Act) (w : World), wpOps P ops Q order a w → wpOpsIn (Fence.wide.inRound l) n P ops Q order a w := by
  intro order
  induction order with
  | nil => intro a w h; exact h
  | cons i rest ih =>
    intro a w h
    cases ho : ops[i]? with
    | none =>
      simp only [wpOps, ho] at h
      simp only [wpOpsIn, ho]
      exact ih a w h
    | some o =>
      simp only [wpOps, ho] at h
      simp only [wpOpsIn, ho]
      split
      · rename_i hw
        simp only [hw, if_true] at h
        rcases h with h | ⟨_, h⟩
        · refine ⟨fun _ _ => trivial, ?_⟩
          rw [Oper.semAt_eq _ _ _ (hnd i o ho)]
          unfold Oper.wp at h
          generalize (execOp a.eval o).run P w = res at *
          cases res with
          | ok x w' =>
            cases x <;> simp only [Oper.upon, Oper.uponIn] at h ⊢
            case value v => exact ih _ _ h
            case skip => exact ih _ _ h
            case defer d => exact ih _ _ h
            case enter f args =>
              refine ⟨fun h => by simp [Fence.wide, Fence.inRound] at h, CallsIn.inRound l (callsIn_wide.2 (h.mono ?_))⟩
              intro e w'' he
              cases e with
              | returned v => exact ih _ _ he
              | panicked c => exact he
              | outgrown => exact he
            case row row args =>
              refine ⟨fun h => by simp [Fence.wide, Fence.inRound] at h, ?_⟩
              intro c cs _
              obtain ⟨v, w'', hv, hs⟩ := h c cs
              exact ⟨v, w'', ih _ _ hv, stepsIn_wide.2 hs⟩
          | halt x w' => cases x <;> simp only [Oper.upon, Oper.uponIn] at h ⊢ <;> exact h
        · exact absurd h hno
      · rename_i hw
        simp only [hw] at h
        exact ⟨fun _ _ => trivial, ih _ _ h⟩
/-- A region that draws its order, in a round: by the plain laws. -/
theorem region_round {l n id : Nat} {P : Program} {ops : Array Oper} {Q : Exit → Act → World → Prop} {S : World → Prop} {a : Act} {w : World} (hm : P.follows .mixedOrders = true) (hnd : ∀ (i : Nat) (o : Oper), ops[i]? = some o → ∀ c, o.op ≠ .defer c) (hno : ¬ LetsOut Q)
    (hS : S w.drew) (h : S w.drew → wpAnyH P .any ops Q S ops.size (Array.replicate ops.size false) a w.drew) : (Code.region id ops true).wpIn (Fence.wide.inRound l) n P Q a w :=
  wpIn_region_draw fun t => ops_round hnd hno _ _ _ (by
    simp only [Region.schedule, hm, Bool.true_or, if_true]
    exact wpAny_sound ops.size t _ a _ (wpAny_of_held _ _ _ _ (h hS)))
end BtSeq
end Go.Proofs.YtkknenmpdimdbaaGreatDoor

namespace Go.Proofs.YtkknenmpdimdbaaGreatDoor
namespace BerMath

/-- A header as it is read. -/
structure Hd where
  cls : Nat
  made : Bool
  tag : Nat
  len : Nat
  size : Nat
/-- A header, or a fault with its place, or nothing yet. -/
abbrev HR := Except (Option (Nat × Nat)) Hd
abbrev HR.er (code pos : Nat) : HR := .error (some (code, pos))
abbrev HR.miss : HR := .error none
theorem er_inj {a b c q : Nat} (h : HR.er a b = HR.er c q) : a = c ∧ b = q := by
  injection h with h
  injection h with h
  injection h with h1 h2
  exact ⟨h1, h2⟩

/-- Bytes as a number, the highest first. -/
def num (v : Nat) (l : List UInt8) : Nat := l.foldl (fun n b => n * 256 + b.toNat) v
theorem num_snoc (v : Nat) (l : List UInt8) (b : UInt8) : num v (l ++ [b]) = num v l * 256 + b.toNat := by simp [num]
theorem num_lt (l : List UInt8) : num 0 l < 256 ^ l.length := by
  have key : ∀ (l : List UInt8) (v : Nat), num v l < (v + 1) * 256 ^ l.length := by
    intro l
    induction l with
    | nil => intro v; simp [num]
    | cons x l ih =>
      intro v
      have h := ih (v * 256 + x.toNat)
      have hx := x.toNat_lt
      have e : num v (x :: l) = num (v * 256 + x.toNat) l := rfl
      rw [e, List.length_cons, Nat.pow_succ]
      refine Nat.lt_of_lt_of_le h ?_
      have : v * 256 + x.toNat + 1 ≤ (v + 1) * 256 := by omega
      calc (v * 256 + x.toNat + 1) * 256 ^ l.length ≤ ((v + 1) * 256) * 256 ^ l.length := Nat.mul_le_mul_right _ this
        _ = (v + 1) * (256 ^ l.length * 256) := by rw [Nat.mul_assoc, Nat.mul_comm 256]
  have := key l 0
  simpa using this

/-- The header that begins at p, in a stretch that ends at e: rules 2 to 6. -/
def hAt (b : List UInt8) (p e : Nat) : HR :=
  if e ≤ p then HR.miss
  else if (b.getD p 0).toNat % 32 = 31 then HR.er 21 p
  else if e ≤ p + 1 then HR.miss
  else if (b.getD (p + 1) 0).toNat = 128 then HR.er 22 (p + 1)
  else if 132 < (b.getD (p + 1) 0).toNat then HR.er 23 (p + 1)
  else if (b.getD (p + 1) 0).toNat < 128 then .ok ⟨(b.getD p 0).toNat / 64, decide ((b.getD p 0).toNat / 32 % 2 = 1), (b.getD p 0).toNat % 32, (b.getD (p + 1) 0).toNat, 2⟩
  else if e < p + ((b.getD (p + 1) 0).toNat - 126) then HR.miss
  else .ok ⟨(b.getD p 0).toNat / 64, decide ((b.getD p 0).toNat / 32 % 2 = 1), (b.getD p 0).toNat % 32, num 0 ((b.drop (p + 2)).take ((b.getD (p + 1) 0).toNat - 128)), (b.getD (p + 1) 0).toNat - 126⟩
end BerMath
end Go.Proofs.YtkknenmpdimdbaaGreatDoor

namespace Go.Proofs.YtkknenmpdimdbaaGreatDoor
namespace BerMath

/-- The lowest byte of a number. -/
def lo (n : Int) : UInt8 := UInt8.ofNat (n % 256).toNat
theorem lo_n (n : Int) : ((lo n).toNat : Int) = n % 256 := by
  unfold lo
  rw [UInt8.toNat_ofNat', Nat.mod_eq_of_lt (by omega)]
  omega
theorem lo_eq (n : Int) (b : UInt8) (h : n % 256 = (b.toNat : Int)) : lo n = b := by
  unfold lo
  rw [h]
  simp

/-- How many bytes a number takes. -/
def sz (n : Int) : Nat :=
  if -128 ≤ n ∧ n ≤ 127 then 1 else if -32768 ≤ n ∧ n ≤ 32767 then 2 else if -8388608 ≤ n ∧ n ≤ 8388607 then 3 else if -2147483648 ≤ n ∧ n ≤ 2147483647 then 4
  else if -549755813888 ≤ n ∧ n ≤ 549755813887 then 5 else if -140737488355328 ≤ n ∧ n ≤ 140737488355327 then 6 else if -36028797018963968 ≤ n ∧ n ≤ 36028797018963967 then 7 else 8

theorem sz_one (n : Int) (h : -128 ≤ n ∧ n ≤ 127) : sz n = 1 := by unfold sz; rw [if_pos h]
theorem sz_up (n : Int) (h : ¬ (-128 ≤ n ∧ n ≤ 127)) (h1 : -9223372036854775808 ≤ n) (h2 : n ≤ 9223372036854775807) : sz n = sz (n / 256) + 1 := by
  unfold sz
  rw [if_neg h]
  repeat' split
  all_goals omega
theorem sz_pos (n : Int) : 1 ≤ sz n ∧ sz n ≤ 8 := by
  unfold sz
  repeat' split
  all_goals omega
theorem sz_one_iff (n : Int) (h : sz n = 1) : -128 ≤ n ∧ n ≤ 127 := by
  unfold sz at h
  split at h
  · assumption
  · repeat' split at h
    all_goals omega
theorem sz_seven (n : Int) (h : sz n ≤ 7) : -36028797018963968 ≤ n ∧ n ≤ 36028797018963967 := by
  unfold sz at h
  repeat' split at h
  all_goals omega

/-- The lowest bytes of a number, the highest of them first. -/
def be : Nat → Int → List UInt8
  | 0, _ => []
  | k + 1, n => be k (n / 256) ++ [lo n]
theorem be_len (k : Nat) (n : Int) : (be k n).length = k := by
  induction k generalizing n with
  | zero => rfl
  | succ k ih => simp [be, ih]
/-- A number's content. -/
def enc (n : Int) : List UInt8 := be (sz n) n
theorem enc_len (n : Int) : (enc n).length = sz n := be_len _ _
theorem enc_one (n : Int) (h : -128 ≤ n ∧ n ≤ 127) : enc n = [lo n] := by unfold enc; rw [sz_one n h]; rfl
theorem enc_up (n : Int) (h : ¬ (-128 ≤ n ∧ n ≤ 127)) (h1 : -9223372036854775808 ≤ n) (h2 : n ≤ 9223372036854775807) : enc n = enc (n / 256) ++ [lo n] := by
  unfold enc; rw [sz_up n h h1 h2]; rfl

/-- The sign that a content begins with. -/
def sg (l : List UInt8) : Int := if 128 ≤ (l.getD 0 0).toNat then -1 else 0
def fo (v : Int) (l : List UInt8) : Int := l.foldl (fun n b => n * 256 + (b.toNat : Int)) v
def val (l : List UInt8) : Int := fo (sg l) l
theorem fo_snoc (v : Int) (l : List UInt8) (b : UInt8) : fo v (l ++ [b]) = fo v l * 256 + (b.toNat : Int) := by simp [fo]
theorem sg_app (l k : List UInt8) (h : l ≠ []) : sg (l ++ k) = sg l := by
  cases l with
  | nil => exact absurd rfl h
  | cons x xs => rfl
theorem val_snoc (l : List UInt8) (b : UInt8) (h : l ≠ []) : val (l ++ [b]) = val l * 256 + (b.toNat : Int) := by
  unfold val; rw [sg_app _ _ h, fo_snoc]
theorem val_one (b : UInt8) : val [b] = if 128 ≤ b.toNat then (b.toNat : Int) - 256 else (b.toNat : Int) := by
  show fo (if 128 ≤ b.toNat then -1 else 0) [b] = _
  split <;> simp [fo] <;> omega
theorem be_ne (k : Nat) (n : Int) (h : 1 ≤ k) : be k n ≠ [] := by
  intro e; have := be_len k n; rw [e] at this; simp at this; omega

theorem val_be (k : Nat) (n : Int) (h1 : -9223372036854775808 ≤ n) (h2 : n ≤ 9223372036854775807) (hk : sz n = k) : val (be k n) = n := by
  induction k generalizing n with
  | zero => have := sz_pos n; omega
  | succ k ih =>
    by_cases h : -128 ≤ n ∧ n ≤ 127
    · have : k = 0 := by rw [sz_one n h] at hk; omega
      subst this
      show val ([] ++ [lo n]) = n
      rw [List.nil_append, val_one]
      have := lo_n n
      split <;> omega
    · have hu := sz_up n h h1 h2
      have hp := sz_pos (n / 256)
      show val (be k (n / 256) ++ [lo n]) = n
      rw [val_snoc _ _ (be_ne _ _ (by omega)), ih (n / 256) (by omega) (by omega) (by omega), lo_n]
      omega
theorem val_enc (n : Int) (h1 : -9223372036854775808 ≤ n) (h2 : n ≤ 9223372036854775807) : val (enc n) = n := val_be _ n h1 h2 rfl

/-- A first byte that says nothing. -/
def pad : List UInt8 → Bool
  | x :: y :: _ => decide (x.toNat = 0 ∧ y.toNat < 128) || decide (x.toNat = 255 ∧ 128 ≤ y.toNat)
  | _ => false
theorem pad_app (l k : List UInt8) (h : 2 ≤ l.length) : pad (l ++ k) = pad l := by
  rcases l with _ | ⟨x, _ | ⟨y, l⟩⟩
  · simp at h
  · simp at h
  · rfl
theorem pad_two (x y : UInt8) (h : ¬ (-128 ≤ val [x, y] ∧ val [x, y] ≤ 127)) : pad [x, y] = false := by
  have e : val [x, y] = val [x] * 256 + (y.toNat : Int) := val_snoc [x] y (by simp)
  rw [e, val_one] at h
  have hx := x.toNat_lt
  have hy := y.toNat_lt
  simp only [pad, Bool.or_eq_false_iff, decide_eq_false_iff_not]
  split at h <;> omega
theorem pad_two' (x y : UInt8) (h : pad [x, y] = false) : ¬ (-128 ≤ val [x, y] ∧ val [x, y] ≤ 127) := by
  have e : val [x, y] = val [x] * 256 + (y.toNat : Int) := val_snoc [x] y (by simp)
  rw [e, val_one]
  have hx := x.toNat_lt
  have hy := y.toNat_lt
  simp only [pad, Bool.or_eq_false_iff, decide_eq_false_iff_not] at h
  split <;> omega

theorem pad_be (k : Nat) (n : Int) (h1 : -9223372036854775808 ≤ n) (h2 : n ≤ 9223372036854775807) (hk : sz n = k) : pad (be k n) = false := by
  induction k generalizing n with
  | zero => rfl
  | succ k ih =>
    by_cases h : -128 ≤ n ∧ n ≤ 127
    · have : k = 0 := by rw [sz_one n h] at hk; omega
      subst this
      rfl
    · have hu := sz_up n h h1 h2
      have hp := sz_pos (n / 256)
      show pad (be k (n / 256) ++ [lo n]) = false
      by_cases hk2 : 2 ≤ k
      · rw [pad_app _ _ (by rw [be_len]; exact hk2)]
        exact ih (n / 256) (by omega) (by omega) (by omega)
      · have hk1 : k = 1 := by omega
        subst hk1
        refine pad_two (lo (n / 256)) (lo n) ?_
        have : val (be 2 n) = n := val_be 2 n h1 h2 hk
        have e : be 2 n = [lo (n / 256), lo n] := rfl
        rw [← e, this]
        exact h
theorem pad_enc (n : Int) (h1 : -9223372036854775808 ≤ n) (h2 : n ≤ 9223372036854775807) : pad (enc n) = false := pad_be _ n h1 h2 rfl

theorem snoc_ind {p : List UInt8 → Prop} (h1 : ∀ b, p [b]) (h2 : ∀ l b, l ≠ [] → p l → p (l ++ [b])) (l : List UInt8) (h : l ≠ []) : p l := by
  have : ∀ k : Nat, ∀ l : List UInt8, l.length = k + 1 → p l := by
    intro k
    induction k with
    | zero =>
      intro l hl
      match l, hl with
      | [b], _ => exact h1 b
    | succ k ih =>
      intro l hl
      have hne : l ≠ [] := by intro e; rw [e] at hl; simp at hl
      rw [← List.dropLast_concat_getLast hne]
      refine h2 _ _ ?_ (ih _ (by rw [List.length_dropLast]; omega))
      intro e
      have := congrArg List.length e
      rw [List.length_dropLast] at this
      simp at this
      omega
  refine this (l.length - 1) l ?_
  have := List.length_pos_iff.mpr h
  omega

theorem be_val (l : List UInt8) (h : l ≠ []) : be l.length (val l) = l := by
  refine snoc_ind (p := fun l => be l.length (val l) = l) ?_ ?_ l h
  · intro b
    show [lo (val [b])] = [b]
    rw [lo_eq (val [b]) b (by rw [val_one]; have := b.toNat_lt; split <;> omega)]
  · intro l b hl ih
    have hb := b.toNat_lt
    have e1 : val (l ++ [b]) / 256 = val l := by rw [val_snoc l b hl]; omega
    have e2 : lo (val (l ++ [b])) = b := lo_eq _ _ (by rw [val_snoc l b hl]; omega)
    rw [List.length_append]
    show be l.length (val (l ++ [b]) / 256) ++ [lo (val (l ++ [b]))] = l ++ [b]
    rw [e1, e2, ih]

theorem sz_val (l : List UInt8) (h : l ≠ []) (h8 : l.length ≤ 8) (hp : pad l = false) : sz (val l) = l.length ∧ -9223372036854775808 ≤ val l ∧ val l ≤ 9223372036854775807 := by
  revert h8 hp
  refine snoc_ind (p := fun l => l.length ≤ 8 → pad l = false → sz (val l) = l.length ∧ -9223372036854775808 ≤ val l ∧ val l ≤ 9223372036854775807) ?_ ?_ l h
  · intro b _ _
    have hb := b.toNat_lt
    have e := val_one b
    have : -128 ≤ val [b] ∧ val [b] ≤ 127 := by rw [e]; split <;> omega
    exact ⟨sz_one _ this, by omega, by omega⟩
  · intro l b hl ih h8 hp
    rw [List.length_append] at h8
    have hb := b.toNat_lt
    have hpos := List.length_pos_iff.mpr hl
    have hv := val_snoc l b hl
    have h9 : l.length ≤ 7 := by simp at h8; omega
    by_cases h2 : 2 ≤ l.length
    · rw [pad_app _ _ h2] at hp
      obtain ⟨i1, i2, i3⟩ := ih (by omega) hp
      have hs := sz_seven (val l) (by omega)
      have hn : ¬ (-128 ≤ val l ∧ val l ≤ 127) := by
        intro hh
        have := sz_one _ hh
        omega
      have hr : -9223372036854775808 ≤ val (l ++ [b]) ∧ val (l ++ [b]) ≤ 9223372036854775807 := by rw [hv]; omega
      refine ⟨?_, hr⟩
      rw [sz_up _ (by rw [hv]; omega) hr.1 hr.2]
      have e1 : val (l ++ [b]) / 256 = val l := by rw [hv]; omega
      rw [e1, i1]; simp
    · match l, hl, h2 with
      | [x], _, _ =>
        have hn := pad_two' x b hp
        have hx := x.toNat_lt
        have hr : -32768 ≤ val [x, b] ∧ val [x, b] ≤ 32767 := by
          have e : val [x, b] = val [x] * 256 + (b.toNat : Int) := hv
          rw [e, val_one]
          split <;> omega
        show sz (val [x, b]) = 2 ∧ -9223372036854775808 ≤ val [x, b] ∧ val [x, b] ≤ 9223372036854775807
        refine ⟨?_, by omega, by omega⟩
        unfold sz
        rw [if_neg hn, if_pos hr]
      | x :: y :: t, _, h2 => simp at h2

theorem enc_val (l : List UInt8) (h : l ≠ []) (h8 : l.length ≤ 8) (hp : pad l = false) : enc (val l) = l := by
  unfold enc
  rw [(sz_val l h h8 hp).1]
  exact be_val l h
/-- Is it a number's content? -/
def okInt (l : List UInt8) : Bool := decide (1 ≤ l.length) && decide (l.length ≤ 8) && !pad l
theorem okInt_enc (n : Int) (h1 : -9223372036854775808 ≤ n) (h2 : n ≤ 9223372036854775807) : okInt (enc n) = true := by
  have := sz_pos n
  unfold okInt
  rw [pad_enc n h1 h2, enc_len]
  simp; omega
theorem okInt_iff (l : List UInt8) (h : okInt l = true) : l ≠ [] ∧ l.length ≤ 8 ∧ pad l = false := by
  unfold okInt at h
  simp at h
  refine ⟨?_, h.1.2, h.2⟩
  intro e; subst e; simp at h
theorem enc_inj (n m : Int) (h1 : -9223372036854775808 ≤ n) (h2 : n ≤ 9223372036854775807) (h3 : -9223372036854775808 ≤ m) (h4 : m ≤ 9223372036854775807) (h : enc n = enc m) : n = m := by
  rw [← val_enc n h1 h2, ← val_enc m h3 h4, h]
theorem sg_enc (n : Int) (h1 : -9223372036854775808 ≤ n) (h2 : n ≤ 9223372036854775807) : (128 ≤ ((enc n).getD 0 0).toNat) ↔ n < 0 := by
  have key : ∀ k : Nat, ∀ n : Int, -9223372036854775808 ≤ n → n ≤ 9223372036854775807 → sz n = k → ((128 ≤ ((be k n).getD 0 0).toNat) ↔ n < 0) := by
    intro k
    induction k with
    | zero => intro n _ _ h; have := sz_pos n; omega
    | succ k ih =>
      intro n h1 h2 hk
      by_cases h : -128 ≤ n ∧ n ≤ 127
      · have : k = 0 := by rw [sz_one n h] at hk; omega
        subst this
        show 128 ≤ (lo n).toNat ↔ n < 0
        have := lo_n n
        omega
      · have hu := sz_up n h h1 h2
        have hp := sz_pos (n / 256)
        have e : (be (k + 1) n).getD 0 0 = (be k (n / 256)).getD 0 0 := by
          have hl := be_len k (n / 256)
          show (be k (n / 256) ++ [lo n]).getD 0 0 = _
          simp only [List.getD]
          rw [List.getElem?_append_left (by omega)]
        rw [e, ih (n / 256) (by omega) (by omega) (by omega)]
        omega
  exact key _ n h1 h2 rfl
end BerMath
end Go.Proofs.YtkknenmpdimdbaaGreatDoor

namespace Go.Proofs.YtkknenmpdimdbaaGreatDoor
open Go.RowKit
open BerMath (lo sz be enc sg fo val pad okInt)

theorem lo_wrap (n : Int) : IntKind.u8.wrap n = ((lo n).toNat : Int) := by
  rw [BerMath.lo_n]
  simp [IntKind.wrap, IntKind.bits, IntKind.signed]

theorem set_at (l t : List UInt8) (k : Nat) (b : UInt8) (h : l.length = k + 1) : (l ++ t).set k b = l.take k ++ b :: t := by
  rw [List.set_append_left _ _ (by omega)]
  have : l.set k b = l.take k ++ [b] := by
    rw [List.set_eq_take_append_cons_drop, if_pos (by omega), List.drop_of_length_le (by omega)]
  rw [this]; simp

theorem brow_made (w : World) (e : TypeId) (n : Nat) : BRow (w.alloc (.cells (madeCells #[.int .u8 0] n) e)) w.heap.size (List.replicate n 0) := by
  intro j hj
  have hj' : j < n := by simpa using hj
  rw [World.cell?_alloc_mark, World.frozen?_alloc_mark]
  simp [madeCells, hj', Nat.mod_one]

/-- What Int answers of a content. -/
def intV (l : List UInt8) : Value := if okInt l = true then .tuple #[.int .i64 (val l), .int .i64 0] else .tuple #[.int .i64 0, .int .i64 29]

theorem or_low (n : Int) (b : Nat) (hb : b < 256) (h1 : -36028797018963968 ≤ n) (h2 : n ≤ 36028797018963967) : bits .or .i64 (n * 256) (b : Int) = n * 256 + (b : Int) := by
  have e1 : (BitVec.ofInt 64 (b : Int)).toNat = b := by rw [BitVec.toNat_ofInt]; omega
  have e2 : (BitVec.ofInt 64 (n * 256)).toNat = (n % 72057594037927936).toNat <<< 8 := by
    rw [BitVec.toNat_ofInt, Nat.shiftLeft_eq]; omega
  have key : (BitVec.ofInt 64 (n * 256) ||| BitVec.ofInt 64 (b : Int)).toNat = (n % 72057594037927936).toNat * 256 + b := by
    rw [BitVec.toNat_or, e1, e2, ← Nat.shiftLeft_add_eq_or_of_lt (by omega), Nat.shiftLeft_eq]
  show IntKind.i64.wrap ((BitVec.ofInt 64 (n * 256) ||| BitVec.ofInt 64 (b : Int)).toNat : Nat) = _
  rw [key, IntKind.wrap_i64]
  omega

theorem fo_le (l : List UInt8) (h : l ≠ []) (h7 : l.length ≤ 7) : -36028797018963968 ≤ val l ∧ val l ≤ 36028797018963967 := by
  revert h7
  have key : ∀ (l : List UInt8), l ≠ [] → -(128 * 256 ^ (l.length - 1) : Int) ≤ val l ∧ val l < 128 * 256 ^ (l.length - 1) := by
    intro l h
    refine BerMath.snoc_ind (p := fun l => -(128 * 256 ^ (l.length - 1) : Int) ≤ val l ∧ val l < 128 * 256 ^ (l.length - 1)) ?_ ?_ l h
    · intro b
      have hb := b.toNat_lt
      rw [BerMath.val_one]
      simp
      split <;> omega
    · intro l b hl ih
      have hb := b.toNat_lt
      have hpos := List.length_pos_iff.mpr hl
      have e : (l ++ [b]).length - 1 = l.length - 1 + 1 := by simp; omega
      rw [e, BerMath.val_snoc l b hl, Int.pow_succ]
      generalize (256 : Int) ^ (l.length - 1) = q at *
      omega
  intro h7
  have hk := key l h
  have hpos := List.length_pos_iff.mpr h
  have hc : l.length - 1 = 0 ∨ l.length - 1 = 1 ∨ l.length - 1 = 2 ∨ l.length - 1 = 3 ∨ l.length - 1 = 4 ∨ l.length - 1 = 5 ∨ l.length - 1 = 6 := by omega
  rcases hc with e | e | e | e | e | e | e <;> rw [e] at hk <;> simp at hk <;> omega
end Go.Proofs.YtkknenmpdimdbaaGreatDoor
