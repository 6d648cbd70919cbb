import Derived.Test.YtgfonnjblbpogaaBeSeq
import Derived.BigQuiet
namespace Go.Proofs.Ytgfonnjblbpogaa
namespace BtSeq
open Go.RowKit Go.Shelf
set_option linter.unusedVariables false

/-- The same, in a round of another loop. -/
theorem range_n {n : Nat} {P : Program} {α : Type} {g : Operand} {ps : Array Tmp} {assign body : Code} {Q : Exit → Act → World → Prop} {a : Act} {w : World}
    {l₀ : Nat} {r₀ : Loop} (hl₀ : w.heap[l₀]? = some (.loop r₀)) (h1 : 1 ≤ n) {gf : Nat} {lb : Array Value} (hg : a.eval g = .func (.func gf) #[] lb) (eg : ∀ args w, (callFunc gf args).run P w = .ok (.enter gf args) w)
    {encs : α → Array Value} {Kp : World → World → Prop} {L : List α} {w0 : World} (hseq : SeqL (n - 1) P gf lb encs Kp L w0)
    (hKt : ∀ {A B C : World}, Kp A B → Kp B C → Kp A C) (hKb : ∀ (W : World) (l : Nat) (o o' : Obj), w.heap.size ≤ l → W.heap[l]? = some o → o.isCells = false → o.isWalk = false → Kp W (W.putObj l o'))
    (hb0 : Below w0.heap.size w0 w) (hps : ∀ x, (encs x).size = ps.size)
    (I : List α → World → Prop) (Ix : Code → List α → World → Prop) (hI : OwnLow w.heap.size I) (hIx : ∀ c, OwnLow w.heap.size (Ix c)) (h0 : I [] w)
    (Ax : α → Act → World → Prop) (hAx : ∀ x a', OwnFrom w.heap.size (fun (_ : Unit) W => Ax x a' W))
    (hassign : ∀ (l : Nat) (pre : List α) (x : α) (W : World) (K : Act → World → Prop), I pre W → (pre ++ [x]) <+: L → (∀ a' W', KeepsFrom w.heap.size W W' → Kp W W' → I pre W' → Ax x a' W' → K a' W') →
      assign.wpIn (Fence.wide.inRound l) (n - 1 - 1) P (Exit.then K (fun _ _ _ => False)) { tmps := (ps.zip (encs x)).foldl (fun t (p, v) => t.setIfInBounds p v) a.tmps, defers := [] } W)
    (hbody : ∀ (l : Nat) (pre : List α) (x : α) (a' : Act) (W : World), w.heap.size ≤ l → (∃ r, W.heap[l]? = some (.loop r)) → I pre W → Ax x a' W → (pre ++ [x]) <+: L → body.wpIn (Fence.wide.inRound l) (n - 1 - 1) P (postP w.heap.size Kp I Ix (pre ++ [x]) W) a' W)
    (hdone : ∀ (W : World), I L W → Q .normal a W)
    (hstop : ∀ (c : Code) (pre : List α) (W : World), pre <+: L → Ix c pre W → c.wpIn (Fence.wide.inRound l₀) n P Q a W) :
    (Code.rangeFunc g ps assign body).wpIn (Fence.wide.inRound l₀) n P Q a w := by
  refine wpIn_rangeFunc (fun fn hfn => ?_)
  obtain ⟨R, hR⟩ : ∃ R : LoopState → Option Code → Loop, R = fun s p => { state := s, pending := p, fn, tmps := a.tmps, params := ps, assign, body, defers := r₀.defers } := ⟨_, rfl⟩
  let V : World := w.alloc (.loop (R .ready none))
  have vs : V.heap.size = w.heap.size + 1 := by simp [V]
  have hbV : Below w.heap.size w V := (Below.refl _ w).alloc (Nat.le_refl _) _
  have vl : V.heap[w.heap.size]? = some (.loop (R .ready none)) := World.alloc_heap_new w _
  have hent : (Instr.enterLoop fn a.tmps ps assign body (Fence.wide.inRound l₀).round).run P w = .ok (w.heap.size, []) V := by
    have := run_enterLoop_inner (P := P) (w := w) hl₀ fn a.tmps ps assign body
    rw [show (Fence.wide.inRound l₀).round = some l₀ from rfl, this]
    show _ = Result.ok _ (w.alloc (.loop (R .ready none)))
    rw [hR]
  refine ⟨w.heap.size, [], V, { target := .fn (.func gf) lb, args := #[.func (.yield w.heap.size) #[] #[]] }, V, gf, #[.func (.yield w.heap.size) #[] #[]] ++ lb, V, hent, ?_, fun _ _ => trivial, ?_, fun _ => h1, ?_⟩
  · simp only [resolve, hg]
    simp [go_sem]
  · simp [invoke, go_sem, eg]
  refine (CallsIn.inRound l₀ (hseq w.heap.size
    (fun pre W => I pre W ∧ W.heap[w.heap.size]? = some (.loop (R .ready none)))
    (fun pre W => ∃ c, Ix c pre W ∧ W.heap[w.heap.size]? = some (.loop (R .done (some c))))
    V (hb0.trans (hbV.mono hb0.size)) (fun s A B hs hb => ⟨hI s A B hs.1 (hb.mono (by omega)), (hb.block _ (by omega)).trans hs.2⟩)
    (fun s A B hs hb => by
      obtain ⟨c, q1, q2⟩ := hs
      exact ⟨c, hIx c s A B q1 (hb.mono (by omega)), (hb.block _ (by omega)).trans q2⟩) ?round ⟨hI _ _ _ h0 hbV, vl⟩)).mono ?behind
  case behind =>
    rintro e U ⟨⟨v, rfl⟩, ⟨q1, q2⟩ | ⟨pre, hp, c, q1, q2⟩⟩
    · have he := run_endLoop (P := P) q2 (by rw [hR]; simp)
      rw [hR] at he
      exact ⟨none, _, he, hdone _ (hI _ _ _ q1 (below_put _ _ (Nat.le_refl _)))⟩
    · have he := run_endLoop (P := P) q2 (by rw [hR]; simp)
      rw [hR] at he
      exact ⟨some c, _, he, hstop c pre _ hp (hIx c _ _ _ q1 (below_put _ _ (Nat.le_refl _)))⟩
  case round =>
    rintro pre x U ⟨u1, u2⟩ hpx
    have hy := run_yield (P := P) (args := encs x) u2 (by rw [hR]; exact hps x)
    rw [hR] at hy
    refine ⟨fn, _, assign, body, hy, roundIn_of_wpIn hfn (hassign _ pre x U _ u1 hpx ?_)⟩
    clear hy
    intro a' U0 hk0 hkp0 i0 ax0
    have us0 : w.heap.size < U.heap.size := (Array.getElem?_eq_some_iff.1 u2).1
    have u2' : U0.heap[w.heap.size]? = some (.loop (R .ready none)) := hk0.same _ _ (Nat.le_refl _) u2 rfl
    have us : w.heap.size < U0.heap.size := (Array.getElem?_eq_some_iff.1 u2').1
    refine ⟨_, run_beginRound u2' (by rw [hR]), ?_⟩
    obtain ⟨U1, hU1⟩ : ∃ U1, U0.putObj (w.heap.size) (.loop { R .ready none with state := .busy }) = U1 := ⟨_, rfl⟩
    have b1 : U1.heap[w.heap.size]? = some (.loop { R .ready none with state := .busy }) := by rw [← hU1]; exact World.putObj_heap_same us
    have b3 : I pre U1 := by rw [← hU1]; exact hI _ _ _ i0 (below_put _ _ (Nat.le_refl _))
    have b3' : Ax x a' U1 := by rw [← hU1]; exact (hAx x a').putObj (s := ()) _ ax0 (by omega) u2' rfl
    have b4 : Kp U0 U1 := by rw [← hU1]; exact hKb _ _ _ _ (by omega) u2' rfl rfl
    rw [hU1]
    refine wpIn_mono (hbody _ pre x a' U1 (by omega) ⟨_, b1⟩ b3 b3' hpx) ?_
    have fin : ∀ (j : Option Code) (U2 : World), KeepsFrom w.heap.size U1 U2 → U2.heap[w.heap.size]? = some (.loop { R .ready none with state := .busy }) ∧
        (Instr.endRound (w.heap.size) j).run P U2 = .ok (.bool j.isNone) (U2.putObj (w.heap.size) (.loop (R (if j.isNone then .ready else .done) j))) ∧
        (U2.putObj (w.heap.size) (.loop (R (if j.isNone then .ready else .done) j))).heap[w.heap.size]? = some (.loop (R (if j.isNone then .ready else .done) j)) := fun j U2 hk => by
      have c1 := hk.same _ _ (Nat.le_refl _) b1 rfl
      have c3 := run_endRound (P := P) j c1
      refine ⟨c1, ?_, World.putObj_heap_same (Array.getElem?_eq_some_iff.1 c1).1⟩
      rw [hR] at c3 ⊢
      exact c3
    have kf : ∀ (o' : Obj) (U2 : World), KeepsFrom w.heap.size U1 U2 → KeepsFrom V.heap.size U (U2.putObj (w.heap.size) o') := fun o' U2 hk => by
      have s0 := hk0.size
      have s1 : U1.heap.size = U0.heap.size := by rw [← hU1]; simp [World.putObj]
      have s2 := hk.size
      refine ⟨by simp only [World.putObj, Array.size_setIfInBounds]; omega, fun k o hk1 hk2 hk3 => ?_⟩
      have e0 : U0.heap[k]? = some o := hk0.same k o (by omega) hk2 hk3
      have e1 : U1.heap[k]? = some o := by rw [← hU1]; exact (World.putObj_heap_other (by omega)).trans e0
      exact (World.putObj_heap_other (by omega)).trans (hk.same k o (by omega) e1 hk3)
    rintro e a3 U2 hp
    cases e with
    | normal =>
      obtain ⟨c0, c1, c2⟩ := fin none U2 hp.1
      exact ⟨_, _, c1, kf _ _ hp.1, hKt (hKt (hKt hkp0 b4) hp.2.1) (hKb _ _ _ _ (by omega) c0 rfl rfl), .inl ⟨rfl, hI _ _ _ hp.2.2 (below_put _ _ (Nat.le_refl _)), c2⟩⟩
    | ret =>
      obtain ⟨c0, c1, c2⟩ := fin (some .ret) U2 hp.1
      exact ⟨_, _, c1, kf _ _ hp.1, hKt (hKt (hKt hkp0 b4) hp.2.1) (hKb _ _ _ _ (by omega) c0 rfl rfl), .inr ⟨rfl, _, hIx _ _ _ _ hp.2.2 (below_put _ _ (Nat.le_refl _)), c2⟩⟩
    | exit i =>
      obtain ⟨c0, c1, c2⟩ := fin (some (.exit i)) U2 hp.1
      exact ⟨_, _, c1, kf _ _ hp.1, hKt (hKt (hKt hkp0 b4) hp.2.1) (hKb _ _ _ _ (by omega) c0 rfl rfl), .inr ⟨rfl, _, hIx _ _ _ _ hp.2.2 (below_put _ _ (Nat.le_refl _)), c2⟩⟩
    | goto t =>
      obtain ⟨c0, c1, c2⟩ := fin (some (.goto t)) U2 hp.1
      exact ⟨_, _, c1, kf _ _ hp.1, hKt (hKt (hKt hkp0 b4) hp.2.1) (hKb _ _ _ _ (by omega) c0 rfl rfl), .inr ⟨rfl, _, hIx _ _ _ _ hp.2.2 (below_put _ _ (Nat.le_refl _)), c2⟩⟩
    | panic c => exact hp.elim
    | outgrown => exact hp.elim


/-- No operation defers. -/
def notDefer : Op → Bool
  | .defer _ => false
  | _ => true
theorem nd_of {ops : Array Oper} (h : ops.all (fun o => notDefer o.op) = true) : ∀ (i : Nat) (o : Oper), ops[i]? = some o → ∀ c, o.op ≠ .defer c := fun i o hi c e => by
  have hm := Array.all_eq_true.1 h i (Array.getElem?_eq_some_iff.1 hi).1
  rw [(Array.getElem?_eq_some_iff.1 hi).2, e] at hm
  cases hm
/-- A region that draws its order and only reads, in a round: one walk. -/
theorem region_quiet {l n id : Nat} {P : Program} {L : List Oper} {Q : Exit → Act → World → Prop} {a : Act} {w : World} (hm : P.follows .mixedOrders = true) (hB : Region.lexB .any L.toArray = true) (hnd : L.toArray.all (fun o => notDefer o.op) = true) (hno : ¬ LetsOut Q)
    (h : wpQuiet P L.toArray (fun w' => ∃ n, w' = w.drewN n) (fun a' => ∀ w', (∃ n, w' = w.drewN n) → Q .normal a' w') L a) : (Code.region id L.toArray true).wpIn (Fence.wide.inRound l) n P Q a w :=
  wpIn_region_draw fun t => ops_round (nd_of hnd) hno _ _ _ (by
    simp only [Region.lexB, Bool.and_eq_true] at hB
    simp only [Region.schedule, hm, Bool.true_or, if_true]
    refine wpAny_sound L.toArray.size t _ a _ (wpAny_of_quiet (Q := fun a' => ∀ w', (∃ n, w' = w.drewN n) → Q .normal a' w') (fun _ w' hw' h => h w' hw') _ _ _ _ ⟨1, rfl⟩ ?_)
    have := wpAnyQ_lex (C := fun w' => ∃ n, w' = w.drewN n) (md := .any) hB.1 L 0 (Array.replicate L.toArray.size false) a (by simp) (by simpa using hB.2) h
    simpa using this)
end BtSeq
end Go.Proofs.Ytgfonnjblbpogaa
