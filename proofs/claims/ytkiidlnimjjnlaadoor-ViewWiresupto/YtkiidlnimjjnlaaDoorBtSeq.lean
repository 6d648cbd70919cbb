import Derived.RangeFuncNested
import Derived.RangeFuncBound
import Derived.RangeFuncCalls
import Derived.RangeFuncLeaves
import Derived.RangeFuncBox
import Derived.Shelf.Abstract
import Derived.Shelf.RegionOpen
import Derived.WalkKit
import Derived.OwnWalkIn
import Derived.TacticsInMore
import Derived.LoopNIn
import Derived.LoopIn
import Derived.OrdersHeld
namespace Go.Proofs.YtkiidlnimjjnlaaDoor
namespace BtSeq
open Go.RowKit Go.Shelf
set_option linter.unusedVariables false

/-- What an iterator says that gives the list L, and then ends, or gives up with the panic r. -/
def SeqP {α : Type} (n : Nat) (P : Program) (g : Nat) (lb : Array Value) (encs : α → Array Value) (Kp : World → World → Prop) (L : List α) (r : Option (List PanicEntry)) (w : World) : Prop :=
  ∀ (l : Nat) (J Jx : List α → World → Prop) (W : World), Below w.heap.size w W → OwnFrom W.heap.size J → OwnFrom W.heap.size Jx →
    (∀ pre x W1, J pre W1 → (pre ++ [x]) <+: L → YieldAt Fence.wide (n - 1) P l (encs x) W1 fun e W' => KeepsFrom W.heap.size W1 W' ∧ Kp W1 W' ∧
      ((e = .returned (.bool true) ∧ J (pre ++ [x]) W') ∨ (e = .returned (.bool false) ∧ Jx (pre ++ [x]) W'))) →
    J [] W →
    CallsIn Fence.wide n P g (#[.func (.yield l) #[] #[]] ++ lb) W fun e W' =>
      ((∃ v, e = .returned v) ∧ r = none ∧ J L W') ∨ ((∃ v, e = .returned v) ∧ ∃ pre, pre <+: L ∧ Jx pre W') ∨ (∃ ch, r = some ch ∧ e = .panicked ch ∧ J L W')

/-- What a round is to leave. -/
def postP {α : Type} (B : Nat) (Kp : World → World → Prop) (I : List α → World → Prop) (Ix : Code → List α → World → Prop) (xs : List α) (W : World) : Exit → Act → World → Prop
  | .normal, _, W' => KeepsFrom B W W' ∧ Kp W W' ∧ I xs W'
  | .ret, _, W' => KeepsFrom B W W' ∧ Kp W W' ∧ Ix .ret xs W'
  | .exit id, _, W' => KeepsFrom B W W' ∧ Kp W W' ∧ Ix (.exit id) xs W'
  | .goto t, _, W' => KeepsFrom B W W' ∧ Kp W W' ∧ Ix (.goto t) xs W'
  | .panic _, _, _ => False
  | .outgrown, _, _ => False
theorem postP_shut {α : Type} {B : Nat} {Kp : World → World → Prop} {I : List α → World → Prop} {Ix : Code → List α → World → Prop} {xs : List α} {W : World} : ¬ LetsOut (postP B Kp I Ix xs W) := fun ⟨_, _, h⟩ => h
/-- The caller's law for such an iterator. -/
theorem range_p {n : Nat} {P : Program} {α : Type} {g : Operand} {ps : Array Tmp} {assign body : Code} {Q : Exit → Act → World → Prop} {a : Act} {w : World}
    (h1 : 1 ≤ n) {gf : Nat} {lb : Array Value} (hg : a.eval g = .func (.func gf) #[] lb) (eg : ∀ args w, (callFunc gf args).run P w = .ok (.enter gf args) w)
    {encs : α → Array Value} {Kp : World → World → Prop} {L : List α} {r : Option (List PanicEntry)} {w0 : World} (hseq : SeqP (n - 1) P gf lb encs Kp L r w0)
    (hKt : ∀ {A B C : World}, Kp A B → Kp B C → Kp A C) (hKb : ∀ (W : World) (l : Nat) (o o' : Obj), w.heap.size ≤ l → W.heap[l]? = some o → o.isCells = false → o.isWalk = false → Kp W (W.putObj l o'))
    (hb0 : Below w0.heap.size w0 w) (hps : ∀ x, (encs x).size = ps.size)
    (I : List α → World → Prop) (Ix : Code → List α → World → Prop) (hI : OwnFrom w.heap.size I) (hIx : ∀ c, OwnFrom w.heap.size (Ix c)) (h0 : I [] w)
    (Ax : α → Act → World → Prop) (hAx : ∀ x a', OwnFrom w.heap.size (fun (_ : Unit) W => Ax x a' W))
    (hassign : ∀ (l : Nat) (pre : List α) (x : α) (W : World) (K : Act → World → Prop), I pre W → (pre ++ [x]) <+: L → (∀ a' W', KeepsFrom w.heap.size W W' → Kp W W' → I pre W' → Ax x a' W' → K a' W') →
      assign.wpIn (Fence.wide.inRound l) (n - 1 - 1) P (Exit.then K (fun _ _ _ => False)) { tmps := (ps.zip (encs x)).foldl (fun t (p, v) => t.setIfInBounds p v) a.tmps, defers := [] } W)
    (hbody : ∀ (l : Nat) (pre : List α) (x : α) (a' : Act) (W : World), w.heap.size ≤ l → (∃ r, W.heap[l]? = some (.loop r)) → I pre W → Ax x a' W → (pre ++ [x]) <+: L → body.wpIn (Fence.wide.inRound l) (n - 1 - 1) P (postP w.heap.size Kp I Ix (pre ++ [x]) W) a' W)
    (hdone : ∀ (D : Nat) (W : World), w.heap.size ≤ D → r = none → I L W → W.heap[D]? = some (.deferred (some [])) → Q .normal { a with defers := { target := .collected D, args := #[] } :: a.defers } W)
    (hstop : ∀ (D : Nat) (c : Code) (pre : List α) (W : World), w.heap.size ≤ D → pre <+: L → Ix c pre W → W.heap[D]? = some (.deferred (some [])) → c.wpIn Fence.wide n P Q { a with defers := { target := .collected D, args := #[] } :: a.defers } W)
    (hpanic : ∀ (D : Nat) (ch : List PanicEntry) (W : World), w.heap.size ≤ D → r = some ch → I L W → W.heap[D]? = some (.deferred (some [])) → Q (.panic ch) { a with defers := { target := .collected D, args := #[] } :: a.defers } W) :
    (Code.rangeFunc g ps assign body).wpIn Fence.wide n P Q a w := by
  refine wpIn_rangeFunc (fun fn hfn => ?_)
  obtain ⟨R, hR⟩ : ∃ R : LoopState → Option Code → Loop, R = fun s p => { state := s, pending := p, fn, tmps := a.tmps, params := ps, assign, body, defers := w.heap.size } := ⟨_, rfl⟩
  let V : World := (w.alloc (.deferred (some []))).alloc (.loop (R .ready none))
  have vs : V.heap.size = w.heap.size + 2 := by simp [V]
  have hbV : Below w.heap.size w V := ((Below.refl _ w).alloc (Nat.le_refl _) _).alloc (by simp) _
  have vl : V.heap[w.heap.size + 1]? = some (.loop (R .ready none)) := by
    have := World.alloc_heap_new (w.alloc (.deferred (some []))) (.loop (R .ready none))
    rwa [World.size_alloc] at this
  have vd : V.heap[w.heap.size]? = some (.deferred (some [])) := (Below.heap_alloc _ _ _ (by simp)).trans (World.alloc_heap_new w _)
  have hent : (Instr.enterLoop fn a.tmps ps assign body Fence.wide.round).run P w = .ok (w.heap.size + 1, [{ target := .collected w.heap.size, args := #[] }]) V := by
    have := run_enterLoop_outer (P := P) (w := w) fn a.tmps ps assign body
    rw [show Fence.wide.round = none from rfl, this]
    show _ = Result.ok _ ((w.alloc (.deferred (some []))).alloc (.loop (R .ready none)))
    rw [hR]
  refine ⟨w.heap.size + 1, [{ target := .collected w.heap.size, args := #[] }], V, { target := .fn (.func gf) lb, args := #[.func (.yield (w.heap.size + 1)) #[] #[]] }, V, gf, #[.func (.yield (w.heap.size + 1)) #[] #[]] ++ lb, V, hent, ?_, fun _ _ => trivial, ?_, fun _ => h1, ?_⟩
  · simp only [resolve, hg]
    simp [go_sem]
  · simp [invoke, go_sem, eg]
  have up : ∀ {row : Option Nat} {A : World}, (∀ q, row = some q → V.heap.size ≤ q ∧ ∃ o : Obj, A.heap[q]? = some o ∧ o.isCells = false) → ∀ q, row = some q → w.heap.size ≤ q ∧ ∃ o : Obj, A.heap[q]? = some o ∧ o.isCells = false := fun h q e => ⟨by have := (h q e).1; omega, (h q e).2⟩
  have stands : ∀ {row : Option Nat} {A B : World} {k : Nat} {o : Obj}, A.grownBy B row → (∀ q, row = some q → V.heap.size ≤ q ∧ ∃ o : Obj, A.heap[q]? = some o ∧ o.isCells = false) → A.heap[k]? = some o → k < V.heap.size → B.heap[k]? = some o := fun hg hr hk hlt =>
    (hg.block _ (Array.getElem?_eq_some_iff.1 hk).1 (fun e => by have := (hr _ e.symm).1; omega)).trans hk
  refine (hseq (w.heap.size + 1)
    (fun pre W => I pre W ∧ W.heap[w.heap.size + 1]? = some (.loop (R .ready none)) ∧ W.heap[w.heap.size]? = some (.deferred (some [])))
    (fun pre W => ∃ c, Ix c pre W ∧ W.heap[w.heap.size + 1]? = some (.loop (R .done (some c))) ∧ W.heap[w.heap.size]? = some (.deferred (some [])))
    V (hb0.trans (hbV.mono hb0.size)) (fun s A B row hs hg hr => ⟨hI s A B row hs.1 hg (up hr), stands hg hr hs.2.1 (by omega), stands hg hr hs.2.2 (by omega)⟩)
    (fun s A B row hs hg hr => by
      obtain ⟨c, q1, q2, q3⟩ := hs
      exact ⟨c, hIx c s A B row q1 hg (up hr), stands hg hr q2 (by omega), stands hg hr q3 (by omega)⟩) ?round ⟨hI.alloc _ (hI.alloc _ h0), vl, vd⟩).mono ?behind
  case behind =>
    rintro e U (⟨⟨v, rfl⟩, hr, q1, q2, q3⟩ | ⟨⟨v, rfl⟩, pre, hp, c, q1, q2, q3⟩ | ⟨ch, hr, rfl, q1, q2, q3⟩)
    · have he := run_endLoop (P := P) q2 (by rw [hR]; simp)
      rw [hR] at he
      exact ⟨none, _, he, hdone _ _ (Nat.le_refl _) hr (hI.putObj _ q1 (by omega) q2 rfl) ((World.putObj_heap_other (by omega)).trans q3)⟩
    · have he := run_endLoop (P := P) q2 (by rw [hR]; simp)
      rw [hR] at he
      exact ⟨some c, _, he, hstop _ c pre _ (Nat.le_refl _) hp ((hIx c).putObj _ q1 (by omega) q2 rfl) ((World.putObj_heap_other (by omega)).trans q3)⟩
    · exact hpanic _ ch _ (Nat.le_refl _) hr q1 q3
  case round =>
    rintro pre x U ⟨u1, u2, u3⟩ hpx
    have hy := run_yield (P := P) (args := encs x) u2 (by rw [hR]; exact hps x)
    rw [hR] at hy
    refine ⟨fn, _, assign, body, hy, roundIn_of_wpIn hfn (hassign _ pre x U _ u1 hpx ?_)⟩
    clear hy
    intro a' U0 hk0 hkp0 i0 ax0
    have us0 : w.heap.size + 1 < U.heap.size := (Array.getElem?_eq_some_iff.1 u2).1
    have u2' : U0.heap[w.heap.size + 1]? = some (.loop (R .ready none)) := hk0.same _ _ (by omega) u2 rfl
    have u3' : U0.heap[w.heap.size]? = some (.deferred (some [])) := hk0.same _ _ (Nat.le_refl _) u3 rfl
    have us : w.heap.size + 1 < U0.heap.size := (Array.getElem?_eq_some_iff.1 u2').1
    refine ⟨_, run_beginRound u2' (by rw [hR]), ?_⟩
    obtain ⟨U1, hU1⟩ : ∃ U1, U0.putObj (w.heap.size + 1) (.loop { R .ready none with state := .busy }) = U1 := ⟨_, rfl⟩
    have b1 : U1.heap[w.heap.size + 1]? = some (.loop { R .ready none with state := .busy }) := by rw [← hU1]; exact World.putObj_heap_same us
    have b2 : U1.heap[w.heap.size]? = some (.deferred (some [])) := by rw [← hU1]; exact (World.putObj_heap_other (by omega)).trans u3'
    have b3 : I pre U1 := by rw [← hU1]; exact hI.putObj _ i0 (by omega) u2' rfl
    have b3' : Ax x a' U1 := by rw [← hU1]; exact (hAx x a').putObj (s := ()) _ ax0 (by omega) u2' rfl
    have b4 : Kp U0 U1 := by rw [← hU1]; exact hKb _ _ _ _ (by omega) u2' rfl rfl
    rw [hU1]
    refine wpIn_mono (hbody _ pre x a' U1 (by omega) ⟨_, b1⟩ b3 b3' hpx) ?_
    have fin : ∀ (j : Option Code) (U2 : World), KeepsFrom w.heap.size U1 U2 → U2.heap[w.heap.size + 1]? = some (.loop { R .ready none with state := .busy }) ∧
        (Instr.endRound (w.heap.size + 1) j).run P U2 = .ok (.bool j.isNone) (U2.putObj (w.heap.size + 1) (.loop (R (if j.isNone then .ready else .done) j))) ∧
        (U2.putObj (w.heap.size + 1) (.loop (R (if j.isNone then .ready else .done) j))).heap[w.heap.size + 1]? = some (.loop (R (if j.isNone then .ready else .done) j)) ∧
        (U2.putObj (w.heap.size + 1) (.loop (R (if j.isNone then .ready else .done) j))).heap[w.heap.size]? = some (.deferred (some [])) := fun j U2 hk => by
      have c1 := hk.same _ _ (by omega) b1 rfl
      have c2 := hk.same _ _ (Nat.le_refl _) b2 rfl
      have c3 := run_endRound (P := P) j c1
      refine ⟨c1, ?_, World.putObj_heap_same (Array.getElem?_eq_some_iff.1 c1).1, (World.putObj_heap_other (by omega)).trans c2⟩
      rw [hR] at c3 ⊢
      exact c3
    have kf : ∀ (o' : Obj) (U2 : World), KeepsFrom w.heap.size U1 U2 → KeepsFrom V.heap.size U (U2.putObj (w.heap.size + 1) o') := fun o' U2 hk => by
      have s0 := hk0.size
      have s1 : U1.heap.size = U0.heap.size := by rw [← hU1]; simp [World.putObj]
      have s2 := hk.size
      refine ⟨by simp only [World.putObj, Array.size_setIfInBounds]; omega, fun k o hk1 hk2 hk3 => ?_⟩
      have e0 : U0.heap[k]? = some o := hk0.same k o (by omega) hk2 hk3
      have e1 : U1.heap[k]? = some o := by rw [← hU1]; exact (World.putObj_heap_other (by omega)).trans e0
      exact (World.putObj_heap_other (by omega)).trans (hk.same k o (by omega) e1 hk3)
    rintro e a3 U2 hp
    cases e with
    | normal =>
      obtain ⟨c0, c1, c2⟩ := fin none U2 hp.1
      exact ⟨_, _, c1, kf _ _ hp.1, hKt (hKt (hKt hkp0 b4) hp.2.1) (hKb _ _ _ _ (by omega) c0 rfl rfl), .inl ⟨rfl, hI.putObj _ hp.2.2 (by omega) c0 rfl, c2⟩⟩
    | ret =>
      obtain ⟨c0, c1, c2⟩ := fin (some .ret) U2 hp.1
      exact ⟨_, _, c1, kf _ _ hp.1, hKt (hKt (hKt hkp0 b4) hp.2.1) (hKb _ _ _ _ (by omega) c0 rfl rfl), .inr ⟨rfl, _, (hIx _).putObj _ hp.2.2 (by omega) c0 rfl, c2⟩⟩
    | exit i =>
      obtain ⟨c0, c1, c2⟩ := fin (some (.exit i)) U2 hp.1
      exact ⟨_, _, c1, kf _ _ hp.1, hKt (hKt (hKt hkp0 b4) hp.2.1) (hKb _ _ _ _ (by omega) c0 rfl rfl), .inr ⟨rfl, _, (hIx _).putObj _ hp.2.2 (by omega) c0 rfl, c2⟩⟩
    | goto t =>
      obtain ⟨c0, c1, c2⟩ := fin (some (.goto t)) U2 hp.1
      exact ⟨_, _, c1, kf _ _ hp.1, hKt (hKt (hKt hkp0 b4) hp.2.1) (hKb _ _ _ _ (by omega) c0 rfl rfl), .inr ⟨rfl, _, (hIx _).putObj _ hp.2.2 (by omega) c0 rfl, c2⟩⟩
    | panic c => exact hp.elim
    | outgrown => exact hp.elim

/-- Operations that hold no deferred call, walked plainly, are so walked in a round. -/
theorem ops_round {l n : Nat} {P : Program} {ops : Array Oper} {Q : Exit → Act → World → Prop} (hnd : ∀ (i : Nat) (o : Oper), ops[i]? = some o → ∀ c, o.op ≠ .defer c) (hno : ¬ LetsOut Q) :
    ∀ (order : List Nat) (a : Act) (w : World), wpOps P ops Q order a w → wpOpsIn (Fence.wide.inRound l) n P ops Q order a w := by
  intro order
  induction order with
  | nil => intro a w h; exact h
  | cons i rest ih =>
    intro a w h
    cases ho : ops[i]? with
    | none =>
      simp only [wpOps, ho] at h
      simp only [wpOpsIn, ho]
      exact ih a w h
    | some o =>
      simp only [wpOps, ho] at h
      simp only [wpOpsIn, ho]
      split
      · rename_i hw
        simp only [hw, if_true] at h
        rcases h with h | ⟨_, h⟩
        · refine ⟨fun _ _ => trivial, ?_⟩
          rw [Oper.semAt_eq _ _ _ (hnd i o ho)]
          unfold Oper.wp at h
          generalize (execOp a.eval o).run P w = res at *
          cases res with
          | ok x w' =>
            cases x <;> simp only [Oper.upon, Oper.uponIn] at h ⊢
            case value v => exact ih _ _ h
            case skip => exact ih _ _ h
            case defer d => exact ih _ _ h
            case enter f args =>
              refine ⟨fun h => by simp [Fence.wide, Fence.inRound] at h, CallsIn.inRound l (callsIn_wide.2 (h.mono ?_))⟩
              intro e w'' he
              cases e with
              | returned v => exact ih _ _ he
              | panicked c => exact he
              | outgrown => exact he
            case row row args =>
              refine ⟨fun h => by simp [Fence.wide, Fence.inRound] at h, ?_⟩
              intro c cs _
              obtain ⟨v, w'', hv, hs⟩ := h c cs
              exact ⟨v, w'', ih _ _ hv, stepsIn_wide.2 hs⟩
          | halt x w' => cases x <;> simp only [Oper.upon, Oper.uponIn] at h ⊢ <;> exact h
        · exact absurd h hno
      · rename_i hw
        simp only [hw] at h
        exact ⟨fun _ _ => trivial, ih _ _ h⟩
/-- A region that draws its order, in a round: by the plain laws. -/
theorem region_round {l n id : Nat} {P : Program} {ops : Array Oper} {Q : Exit → Act → World → Prop} {S : World → Prop} {a : Act} {w : World} (hm : P.follows .mixedOrders = true) (hnd : ∀ (i : Nat) (o : Oper), ops[i]? = some o → ∀ c, o.op ≠ .defer c) (hno : ¬ LetsOut Q)
    (hS : S w.drew) (h : S w.drew → wpAnyH P .any ops Q S ops.size (Array.replicate ops.size false) a w.drew) : (Code.region id ops true).wpIn (Fence.wide.inRound l) n P Q a w :=
  wpIn_region_draw fun t => ops_round hnd hno _ _ _ (by
    simp only [Region.schedule, hm, Bool.true_or, if_true]
    exact wpAny_sound ops.size t _ a _ (wpAny_of_held _ _ _ _ (h hS)))
end BtSeq
end Go.Proofs.YtkiidlnimjjnlaaDoor
