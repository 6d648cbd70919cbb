import Derived.Test.YtmkmfnbjmakebaaPgSeq
namespace Go.Proofs.Ytmkmfnbjmakebaa
namespace PgSeq
open Go.RowKit Go.Shelf
set_option linter.unusedVariables false

/-- The same, where the loop stands in a round of another one. -/
theorem range_tn {F : Fence} {n : Nat} {P : Program} {α : Type} {T : TypeId → Bool} {g : Operand} {ps : Array Tmp} {assign body : Code} {Q : Exit → Act → World → Prop} {a : Act} {w : World}
    {l₀ : Nat} {r₀ : Loop} (hro : F.round = some l₀) (hl₀ : w.heap[l₀]? = some (.loop r₀)) (h1 : 1 ≤ n) {gf : Nat} {lb : Array Value} (hg : a.eval g = .func (.func gf) #[] lb) (hFg : F.fn gf) (eg : ∀ args w, (callFunc gf args).run P w = .ok (.enter gf args) w)
    {encs : α → Array Value} {Kp : World → World → Prop} {S Sp : List α → Prop} {N : Nat} {w0 : World} (hseq : SeqT F (n - 1) P T gf lb encs Kp S Sp N w0)
    (hKt : ∀ {A B C : World}, Kp A B → Kp B C → Kp A C) (hKb : ∀ (W : World) (l : Nat) (o o' : Obj), w.heap.size ≤ l → W.heap[l]? = some o → o.isCells = false → o.isWalk = false → Kp W (W.putObj l o'))
    (hb0 : Below w0.heap.size w0 w) (hps : ∀ x, (encs x).size = ps.size)
    (I : List α → World → Prop) (Ix : Code → List α → World → Prop) (hI : OwnFrom w.heap.size I) (hIt : Still T w.heap.size I) (hIx : ∀ c, OwnFrom w.heap.size (Ix c)) (hIxt : ∀ c, Still T w.heap.size (Ix c)) (h0 : I [] w) (a1 : α → Act)
    (hassign : ∀ (l : Nat) (x : α) (W : World) (K : Act → World → Prop), K (a1 x) W →
      assign.wpIn (F.inRound l) (n - 1 - 1) P (Exit.then K (fun _ _ _ => False)) { tmps := (ps.zip (encs x)).foldl (fun t (p, v) => t.setIfInBounds p v) a.tmps, defers := [] } W)
    (hbody : ∀ (l : Nat) (pre : List α) (x : α) (W : World), w.heap.size ≤ l → (∃ r, W.heap[l]? = some (.loop r)) → I pre W → pre.length < N → body.wpIn (F.inRound l) (n - 1 - 1) P (ownPostG w.heap.size Kp I Ix (pre ++ [x]) W) (a1 x) W)
    (hdone : ∀ (xs : List α) (W : World), S xs → I xs W → Q .normal a W)
    (hstop : ∀ (c : Code) (pre : List α) (W : World), Sp pre → Ix c pre W → c.wpIn F n P Q a W) :
    (Code.rangeFunc g ps assign body).wpIn F n P Q a w := by
  refine wpIn_rangeFunc (fun fn hfn => ?_)
  obtain ⟨R, hR⟩ : ∃ R : LoopState → Option Code → Loop, R = fun s p => { state := s, pending := p, fn, tmps := a.tmps, params := ps, assign, body, defers := r₀.defers } := ⟨_, rfl⟩
  let V : World := w.alloc (.loop (R .ready none))
  have vs : V.heap.size = w.heap.size + 1 := by simp [V]
  have hbV : Below w.heap.size w V := (Below.refl _ w).alloc (Nat.le_refl _) _
  have vl : V.heap[w.heap.size]? = some (.loop (R .ready none)) := World.alloc_heap_new w _
  have hent : (Instr.enterLoop fn a.tmps ps assign body F.round).run P w = .ok (w.heap.size, []) V := by
    rw [hro, run_enterLoop_inner (P := P) hl₀ fn a.tmps ps assign body]
    show _ = Result.ok _ (w.alloc (.loop (R .ready none)))
    rw [hR]
  refine ⟨w.heap.size, [], V, { target := .fn (.func gf) lb, args := #[.func (.yield w.heap.size) #[] #[]] }, V, gf, #[.func (.yield w.heap.size) #[] #[]] ++ lb, V, hent, ?_, ?_, ?_, fun _ => h1, ?_⟩
  · simp only [resolve, hg]
    simp [go_sem]
  · intro f' hf'
    simp [Target.leads] at hf'
    subst hf'
    exact hFg
  · simp [invoke, go_sem, eg]
  have mvw : ∀ {A B : World}, Mv T V.heap.size A B → Mv T w.heap.size A B := fun h => ⟨h.1, h.2.1, h.2.2.1, h.2.2.2.1, fun k o hk => (h.2.2.2.2 k o hk).imp_right fun e => ⟨by omega, e.2⟩⟩
  refine (hseq w.heap.size
    (fun pre W => I pre W ∧ W.heap[w.heap.size]? = some (.loop (R .ready none)))
    (fun pre W => ∃ c, Ix c pre W ∧ W.heap[w.heap.size]? = some (.loop (R .done (some c))))
    V (hb0.trans (hbV.mono hb0.size)) (fun s A B hs hm => ⟨hIt s A B hs.1 (mvw hm), stands hm hs.2 (by omega)⟩)
    (fun s A B hs hm => by
      obtain ⟨c, q1, q2⟩ := hs
      exact ⟨c, hIxt c s A B q1 (mvw hm), stands hm q2 (by omega)⟩) ?round ⟨hI.alloc _ h0, vl⟩).mono ?behind
  case behind =>
    rintro e U ⟨⟨v, rfl⟩, h⟩
    rcases h with ⟨xs, hS, q1, q2⟩ | ⟨pre, hS, c, q1, q2⟩
    · have he := run_endLoop (P := P) q2 (by rw [hR]; simp)
      rw [hR] at he
      exact ⟨none, _, he, hdone xs _ hS (hI.putObj _ q1 (Nat.le_refl _) q2 rfl)⟩
    · have he := run_endLoop (P := P) q2 (by rw [hR]; simp)
      rw [hR] at he
      exact ⟨some c, _, he, hstop c pre _ hS ((hIx c).putObj _ q1 (Nat.le_refl _) q2 rfl)⟩
  case round =>
    rintro pre x U ⟨u1, u2⟩ hlen
    have hy := run_yield (P := P) (args := encs x) u2 (by rw [hR]; exact hps x)
    rw [hR] at hy
    refine ⟨fn, _, assign, body, hy, roundIn_of_wpIn hfn (hassign _ x U _ ?_)⟩
    clear hy
    have us : w.heap.size < U.heap.size := (Array.getElem?_eq_some_iff.1 u2).1
    refine ⟨_, run_beginRound u2 (by rw [hR]), ?_⟩
    obtain ⟨U1, hU1⟩ : ∃ U1, U.putObj w.heap.size (.loop { R .ready none with state := .busy }) = U1 := ⟨_, rfl⟩
    have b1 : U1.heap[w.heap.size]? = some (.loop { R .ready none with state := .busy }) := by rw [← hU1]; exact World.putObj_heap_same us
    have b3 : I pre U1 := by rw [← hU1]; exact hI.putObj _ u1 (Nat.le_refl _) u2 rfl
    have b4 : Kp U U1 := by rw [← hU1]; exact hKb _ _ _ _ (Nat.le_refl _) u2 rfl rfl
    rw [hU1]
    refine wpIn_mono (hbody _ pre x U1 (Nat.le_refl _) ⟨_, b1⟩ b3 hlen) ?_
    have fin : ∀ (j : Option Code) (U2 : World), KeepsFrom w.heap.size U1 U2 → U2.heap[w.heap.size]? = some (.loop { R .ready none with state := .busy }) ∧
        (Instr.endRound w.heap.size j).run P U2 = .ok (.bool j.isNone) (U2.putObj w.heap.size (.loop (R (if j.isNone then .ready else .done) j))) ∧
        (U2.putObj w.heap.size (.loop (R (if j.isNone then .ready else .done) j))).heap[w.heap.size]? = some (.loop (R (if j.isNone then .ready else .done) j)) := fun j U2 hk => by
      have c1 := hk.same _ _ (Nat.le_refl _) b1 rfl
      have c3 := run_endRound (P := P) j c1
      refine ⟨c1, ?_, World.putObj_heap_same (Array.getElem?_eq_some_iff.1 c1).1⟩
      rw [hR] at c3 ⊢
      exact c3
    have kf : ∀ (o' : Obj) (U2 : World), KeepsFrom w.heap.size U1 U2 → KeepsFrom V.heap.size U (U2.putObj (w.heap.size) o') := fun o' U2 hk => by
      have s1 : U1.heap.size = U.heap.size := by rw [← hU1]; simp [World.putObj]
      have s2 := hk.size
      refine ⟨by simp only [World.putObj, Array.size_setIfInBounds]; omega, fun k o hk1 hk2 hk3 => ?_⟩
      have e1 : U1.heap[k]? = some o := by rw [← hU1]; exact (World.putObj_heap_other (by omega)).trans hk2
      exact (World.putObj_heap_other (by omega)).trans (hk.same k o (by omega) e1 hk3)
    rintro e a3 U2 hp
    cases e with
    | normal =>
      obtain ⟨c0, c1, c2⟩ := fin none U2 hp.1
      exact ⟨_, _, c1, kf _ _ hp.1, .inl ⟨rfl, ⟨hI.putObj _ hp.2.2 (Nat.le_refl _) c0 rfl, c2⟩, hKt (hKt b4 hp.2.1) (hKb _ _ _ _ (Nat.le_refl _) c0 rfl rfl)⟩⟩
    | ret =>
      obtain ⟨c0, c1, c2⟩ := fin (some .ret) U2 hp.1
      exact ⟨_, _, c1, kf _ _ hp.1, .inr ⟨rfl, _, (hIx _).putObj _ hp.2 (Nat.le_refl _) c0 rfl, c2⟩⟩
    | exit i =>
      obtain ⟨c0, c1, c2⟩ := fin (some (.exit i)) U2 hp.1
      exact ⟨_, _, c1, kf _ _ hp.1, .inr ⟨rfl, _, (hIx _).putObj _ hp.2 (Nat.le_refl _) c0 rfl, c2⟩⟩
    | goto t =>
      obtain ⟨c0, c1, c2⟩ := fin (some (.goto t)) U2 hp.1
      exact ⟨_, _, c1, kf _ _ hp.1, .inr ⟨rfl, _, (hIx _).putObj _ hp.2 (Nat.le_refl _) c0 rfl, c2⟩⟩
    | panic c => exact hp.elim
    | outgrown => exact hp.elim
/-- Such a contract goes into a round as it is. -/
theorem SeqT.inRound {α : Type} {F : Fence} {n : Nat} {P : Program} {T : TypeId → Bool} {g : Nat} {lb : Array Value} {encs : α → Array Value} {Kp : World → World → Prop} {S Sp : List α → Prop} {N : Nat} {w : World} (l : Nat) (h : SeqT F n P T g lb encs Kp S Sp N w) : SeqT (F.inRound l) n P T g lb encs Kp S Sp N w := h
theorem YieldAt.wide {m : Nat} (m' : Nat) {P : Program} {l : Nat} {args : Array Value} {W : World} {R : Ending → World → Prop} (h : YieldAt Fence.wide m P l args W R) : YieldAt Fence.wide m' P l args W R := by
  obtain ⟨fn, tmps, assign, body, hy, hR⟩ := h
  exact ⟨fn, tmps, assign, body, hy, hR.1, fun c cs _ => hR.2 c cs (fun d h => by cases h)⟩
end PgSeq
end Go.Proofs.Ytmkmfnbjmakebaa
