import Derived.Test.YtgfonnjblbpogaaBtSeq
import Derived.Test.YtgfonnjblbpogaaBtEl
import Derived.RecoverIn
namespace Go.Proofs.Ytgfonnjblbpogaa
namespace BtSeq
open Go.RowKit Go.Shelf
set_option linter.unusedVariables false

/-- What hangs on the blocks below b alone. -/
def OwnLow {β : Type} (b : Nat) (J : β → World → Prop) : Prop := ∀ s A B, J s A → Below b A B → J s B
theorem OwnLow.mono {β : Type} {b c : Nat} {J : β → World → Prop} (h : OwnLow b J) (hbc : b ≤ c) : OwnLow c J := fun s A B hs hb => h s A B hs (hb.mono hbc)
theorem below_put {b l : Nat} (W : World) (o : Obj) (h : b ≤ l) : Below b W (W.putObj l o) := ⟨rfl, rfl, rfl, by simp [World.putObj], fun k hk => World.putObj_heap_other (by omega)⟩
/-- What an iterator says that gives the list L, and then ends, whatever it meets; it may write into blocks of its own. -/
def SeqL {α : Type} (n : Nat) (P : Program) (g : Nat) (lb : Array Value) (encs : α → Array Value) (Kp : World → World → Prop) (L : List α) (w : World) : Prop :=
  ∀ (l : Nat) (J Jx : List α → World → Prop) (W : World), Below w.heap.size w W → OwnLow W.heap.size J → OwnLow W.heap.size Jx →
    (∀ pre x W1, J pre W1 → (pre ++ [x]) <+: L → YieldAt Fence.wide (n - 1) P l (encs x) W1 fun e W' => KeepsFrom W.heap.size W1 W' ∧ Kp W1 W' ∧
      ((e = .returned (.bool true) ∧ J (pre ++ [x]) W') ∨ (e = .returned (.bool false) ∧ Jx (pre ++ [x]) W'))) →
    J [] W →
    CallsIn Fence.wide n P g (#[.func (.yield l) #[] #[]] ++ lb) W fun e W' => (∃ v, e = .returned v) ∧ (J L W' ∨ ∃ pre, pre <+: L ∧ Jx pre W')

/-- The caller's law for such an iterator. -/
theorem range_l {n : Nat} {P : Program} {α : Type} {g : Operand} {ps : Array Tmp} {assign body : Code} {Q : Exit → Act → World → Prop} {a : Act} {w : World}
    (h1 : 1 ≤ n) {gf : Nat} {lb : Array Value} (hg : a.eval g = .func (.func gf) #[] lb) (eg : ∀ args w, (callFunc gf args).run P w = .ok (.enter gf args) w)
    {encs : α → Array Value} {Kp : World → World → Prop} {L : List α} {w0 : World} (hseq : SeqL (n - 1) P gf lb encs Kp L w0)
    (hKt : ∀ {A B C : World}, Kp A B → Kp B C → Kp A C) (hKb : ∀ (W : World) (l : Nat) (o o' : Obj), w.heap.size ≤ l → W.heap[l]? = some o → o.isCells = false → o.isWalk = false → Kp W (W.putObj l o'))
    (hb0 : Below w0.heap.size w0 w) (hps : ∀ x, (encs x).size = ps.size)
    (I : List α → World → Prop) (Ix : Code → List α → World → Prop) (hI : OwnLow w.heap.size I) (hIx : ∀ c, OwnLow w.heap.size (Ix c)) (h0 : I [] w)
    (Ax : α → Act → World → Prop) (hAx : ∀ x a', OwnFrom w.heap.size (fun (_ : Unit) W => Ax x a' W))
    (hassign : ∀ (l : Nat) (pre : List α) (x : α) (W : World) (K : Act → World → Prop), I pre W → (pre ++ [x]) <+: L → (∀ a' W', KeepsFrom w.heap.size W W' → Kp W W' → I pre W' → Ax x a' W' → K a' W') →
      assign.wpIn (Fence.wide.inRound l) (n - 1 - 1) P (Exit.then K (fun _ _ _ => False)) { tmps := (ps.zip (encs x)).foldl (fun t (p, v) => t.setIfInBounds p v) a.tmps, defers := [] } W)
    (hbody : ∀ (l : Nat) (pre : List α) (x : α) (a' : Act) (W : World), w.heap.size ≤ l → (∃ r, W.heap[l]? = some (.loop r)) → I pre W → Ax x a' W → (pre ++ [x]) <+: L → body.wpIn (Fence.wide.inRound l) (n - 1 - 1) P (postP w.heap.size Kp I Ix (pre ++ [x]) W) a' W)
    (hdone : ∀ (D : Nat) (W : World), w.heap.size ≤ D → I L W → W.heap[D]? = some (.deferred (some [])) → Q .normal { a with defers := { target := .collected D, args := #[] } :: a.defers } W)
    (hstop : ∀ (D : Nat) (c : Code) (pre : List α) (W : World), w.heap.size ≤ D → pre <+: L → Ix c pre W → W.heap[D]? = some (.deferred (some [])) → c.wpIn Fence.wide n P Q { a with defers := { target := .collected D, args := #[] } :: a.defers } W) :
    (Code.rangeFunc g ps assign body).wpIn Fence.wide n P Q a w := by
  refine wpIn_rangeFunc (fun fn hfn => ?_)
  obtain ⟨R, hR⟩ : ∃ R : LoopState → Option Code → Loop, R = fun s p => { state := s, pending := p, fn, tmps := a.tmps, params := ps, assign, body, defers := w.heap.size } := ⟨_, rfl⟩
  let V : World := (w.alloc (.deferred (some []))).alloc (.loop (R .ready none))
  have vs : V.heap.size = w.heap.size + 2 := by simp [V]
  have hbV : Below w.heap.size w V := ((Below.refl _ w).alloc (Nat.le_refl _) _).alloc (by simp) _
  have vl : V.heap[w.heap.size + 1]? = some (.loop (R .ready none)) := by
    have := World.alloc_heap_new (w.alloc (.deferred (some []))) (.loop (R .ready none))
    rwa [World.size_alloc] at this
  have vd : V.heap[w.heap.size]? = some (.deferred (some [])) := (Below.heap_alloc _ _ _ (by simp)).trans (World.alloc_heap_new w _)
  have hent : (Instr.enterLoop fn a.tmps ps assign body Fence.wide.round).run P w = .ok (w.heap.size + 1, [{ target := .collected w.heap.size, args := #[] }]) V := by
    have := run_enterLoop_outer (P := P) (w := w) fn a.tmps ps assign body
    rw [show Fence.wide.round = none from rfl, this]
    show _ = Result.ok _ ((w.alloc (.deferred (some []))).alloc (.loop (R .ready none)))
    rw [hR]
  refine ⟨w.heap.size + 1, [{ target := .collected w.heap.size, args := #[] }], V, { target := .fn (.func gf) lb, args := #[.func (.yield (w.heap.size + 1)) #[] #[]] }, V, gf, #[.func (.yield (w.heap.size + 1)) #[] #[]] ++ lb, V, hent, ?_, fun _ _ => trivial, ?_, fun _ => h1, ?_⟩
  · simp only [resolve, hg]
    simp [go_sem]
  · simp [invoke, go_sem, eg]
  refine (hseq (w.heap.size + 1)
    (fun pre W => I pre W ∧ W.heap[w.heap.size + 1]? = some (.loop (R .ready none)) ∧ W.heap[w.heap.size]? = some (.deferred (some [])))
    (fun pre W => ∃ c, Ix c pre W ∧ W.heap[w.heap.size + 1]? = some (.loop (R .done (some c))) ∧ W.heap[w.heap.size]? = some (.deferred (some [])))
    V (hb0.trans (hbV.mono hb0.size)) (fun s A B hs hb => ⟨hI s A B hs.1 (hb.mono (by omega)), (hb.block _ (by omega)).trans hs.2.1, (hb.block _ (by omega)).trans hs.2.2⟩)
    (fun s A B hs hb => by
      obtain ⟨c, q1, q2, q3⟩ := hs
      exact ⟨c, hIx c s A B q1 (hb.mono (by omega)), (hb.block _ (by omega)).trans q2, (hb.block _ (by omega)).trans q3⟩) ?round ⟨hI _ _ _ h0 hbV, vl, vd⟩).mono ?behind
  case behind =>
    rintro e U ⟨⟨v, rfl⟩, ⟨q1, q2, q3⟩ | ⟨pre, hp, c, q1, q2, q3⟩⟩
    · have he := run_endLoop (P := P) q2 (by rw [hR]; simp)
      rw [hR] at he
      exact ⟨none, _, he, hdone _ _ (Nat.le_refl _) (hI _ _ _ q1 (below_put _ _ (Nat.le_succ _))) ((World.putObj_heap_other (by omega)).trans q3)⟩
    · have he := run_endLoop (P := P) q2 (by rw [hR]; simp)
      rw [hR] at he
      exact ⟨some c, _, he, hstop _ c pre _ (Nat.le_refl _) hp (hIx c _ _ _ q1 (below_put _ _ (Nat.le_succ _))) ((World.putObj_heap_other (by omega)).trans q3)⟩
  case round =>
    rintro pre x U ⟨u1, u2, u3⟩ hpx
    have hy := run_yield (P := P) (args := encs x) u2 (by rw [hR]; exact hps x)
    rw [hR] at hy
    refine ⟨fn, _, assign, body, hy, roundIn_of_wpIn hfn (hassign _ pre x U _ u1 hpx ?_)⟩
    clear hy
    intro a' U0 hk0 hkp0 i0 ax0
    have us0 : w.heap.size + 1 < U.heap.size := (Array.getElem?_eq_some_iff.1 u2).1
    have u2' : U0.heap[w.heap.size + 1]? = some (.loop (R .ready none)) := hk0.same _ _ (by omega) u2 rfl
    have u3' : U0.heap[w.heap.size]? = some (.deferred (some [])) := hk0.same _ _ (Nat.le_refl _) u3 rfl
    have us : w.heap.size + 1 < U0.heap.size := (Array.getElem?_eq_some_iff.1 u2').1
    refine ⟨_, run_beginRound u2' (by rw [hR]), ?_⟩
    obtain ⟨U1, hU1⟩ : ∃ U1, U0.putObj (w.heap.size + 1) (.loop { R .ready none with state := .busy }) = U1 := ⟨_, rfl⟩
    have b1 : U1.heap[w.heap.size + 1]? = some (.loop { R .ready none with state := .busy }) := by rw [← hU1]; exact World.putObj_heap_same us
    have b2 : U1.heap[w.heap.size]? = some (.deferred (some [])) := by rw [← hU1]; exact (World.putObj_heap_other (by omega)).trans u3'
    have b3 : I pre U1 := by rw [← hU1]; exact hI _ _ _ i0 (below_put _ _ (Nat.le_succ _))
    have b3' : Ax x a' U1 := by rw [← hU1]; exact (hAx x a').putObj (s := ()) _ ax0 (by omega) u2' rfl
    have b4 : Kp U0 U1 := by rw [← hU1]; exact hKb _ _ _ _ (by omega) u2' rfl rfl
    rw [hU1]
    refine wpIn_mono (hbody _ pre x a' U1 (by omega) ⟨_, b1⟩ b3 b3' hpx) ?_
    have fin : ∀ (j : Option Code) (U2 : World), KeepsFrom w.heap.size U1 U2 → U2.heap[w.heap.size + 1]? = some (.loop { R .ready none with state := .busy }) ∧
        (Instr.endRound (w.heap.size + 1) j).run P U2 = .ok (.bool j.isNone) (U2.putObj (w.heap.size + 1) (.loop (R (if j.isNone then .ready else .done) j))) ∧
        (U2.putObj (w.heap.size + 1) (.loop (R (if j.isNone then .ready else .done) j))).heap[w.heap.size + 1]? = some (.loop (R (if j.isNone then .ready else .done) j)) ∧
        (U2.putObj (w.heap.size + 1) (.loop (R (if j.isNone then .ready else .done) j))).heap[w.heap.size]? = some (.deferred (some [])) := fun j U2 hk => by
      have c1 := hk.same _ _ (by omega) b1 rfl
      have c2 := hk.same _ _ (Nat.le_refl _) b2 rfl
      have c3 := run_endRound (P := P) j c1
      refine ⟨c1, ?_, World.putObj_heap_same (Array.getElem?_eq_some_iff.1 c1).1, (World.putObj_heap_other (by omega)).trans c2⟩
      rw [hR] at c3 ⊢
      exact c3
    have kf : ∀ (o' : Obj) (U2 : World), KeepsFrom w.heap.size U1 U2 → KeepsFrom V.heap.size U (U2.putObj (w.heap.size + 1) o') := fun o' U2 hk => by
      have s0 := hk0.size
      have s1 : U1.heap.size = U0.heap.size := by rw [← hU1]; simp [World.putObj]
      have s2 := hk.size
      refine ⟨by simp only [World.putObj, Array.size_setIfInBounds]; omega, fun k o hk1 hk2 hk3 => ?_⟩
      have e0 : U0.heap[k]? = some o := hk0.same k o (by omega) hk2 hk3
      have e1 : U1.heap[k]? = some o := by rw [← hU1]; exact (World.putObj_heap_other (by omega)).trans e0
      exact (World.putObj_heap_other (by omega)).trans (hk.same k o (by omega) e1 hk3)
    rintro e a3 U2 hp
    cases e with
    | normal =>
      obtain ⟨c0, c1, c2⟩ := fin none U2 hp.1
      exact ⟨_, _, c1, kf _ _ hp.1, hKt (hKt (hKt hkp0 b4) hp.2.1) (hKb _ _ _ _ (by omega) c0 rfl rfl), .inl ⟨rfl, hI _ _ _ hp.2.2 (below_put _ _ (Nat.le_succ _)), c2⟩⟩
    | ret =>
      obtain ⟨c0, c1, c2⟩ := fin (some .ret) U2 hp.1
      exact ⟨_, _, c1, kf _ _ hp.1, hKt (hKt (hKt hkp0 b4) hp.2.1) (hKb _ _ _ _ (by omega) c0 rfl rfl), .inr ⟨rfl, _, hIx _ _ _ _ hp.2.2 (below_put _ _ (Nat.le_succ _)), c2⟩⟩
    | exit i =>
      obtain ⟨c0, c1, c2⟩ := fin (some (.exit i)) U2 hp.1
      exact ⟨_, _, c1, kf _ _ hp.1, hKt (hKt (hKt hkp0 b4) hp.2.1) (hKb _ _ _ _ (by omega) c0 rfl rfl), .inr ⟨rfl, _, hIx _ _ _ _ hp.2.2 (below_put _ _ (Nat.le_succ _)), c2⟩⟩
    | goto t =>
      obtain ⟨c0, c1, c2⟩ := fin (some (.goto t)) U2 hp.1
      exact ⟨_, _, c1, kf _ _ hp.1, hKt (hKt (hKt hkp0 b4) hp.2.1) (hKb _ _ _ _ (by omega) c0 rfl rfl), .inr ⟨rfl, _, hIx _ _ _ _ hp.2.2 (below_put _ _ (Nat.le_succ _)), c2⟩⟩
    | panic c => exact hp.elim
    | outgrown => exact hp.elim

end BtSeq
end Go.Proofs.Ytgfonnjblbpogaa

namespace Go.Proofs.Ytgfonnjblbpogaa
open Go.RowKit Go.Shelf
set_option linter.unusedVariables false

/-- A deferred call that may recover, in the wide fence. -/
theorem callsDW_of_wpS {n : Nat} {P : Program} {f : FuncId} {fn : Func} {c : Code} {args : Array Value} {u : FrameMode} {w : World} {R : Ending → FrameMode → World → Prop}
    (hf : P.funcs[f]? = some fn) (hb : fn.body = some c)
    (h : ∀ (c₀ : Frame) (cs : List Frame), c₀.mode = u →
      c.wpS P (bodyPostS P fn c₀ cs R) { tmps := args ++ Array.replicate (fn.ntmps - args.size) undef, defers := [] } (c₀ :: cs) w) :
    CallsDIn Fence.wide n P f args u w R := by
  refine ⟨trivial, fun c₀ cs hu _ => ?_⟩
  let b : Frame := { (default : Frame) with fn := f, kind := .deferred }
  have henter : Frame.enter P f args .deferred =
      b.at { tmps := args ++ Array.replicate (fn.ntmps - args.size) undef, defers := [] } [.code c] := by
    simp [Frame.enter, Frame.at, hf, hb, b]
  obtain ⟨e, a', cs', w', hq, harr⟩ := h c₀ cs hu b [] rfl rfl
  rw [← henter] at harr
  cases e with
  | normal =>
    obtain ⟨hd, u', rfl, v, hr, hR⟩ := hq
    exact ⟨.returned v, u', w', _, hR, comesIn_wide.2 (Steps.trans harr (.one step_end)), rfl, rfl, rfl, hd, fn, hf, hr⟩
  | ret =>
    obtain ⟨hd, u', rfl, v, hr, hR⟩ := hq
    obtain ⟨todo, hs⟩ := harr
    exact ⟨.returned v, u', w', _, hR, comesIn_wide.2 hs, rfl, rfl, rfl, hd, fn, hf, hr⟩
  | panic chain =>
    obtain ⟨hd, u', rfl, hR⟩ := hq
    obtain ⟨todo, hs⟩ := harr
    exact ⟨.panicked chain, u', w', _, hR, comesIn_wide.2 hs, rfl, rfl, rfl, hd, fn, hf⟩
  | exit id => exact hq.elim
  | goto l => exact hq.elim
  | outgrown =>
    obtain ⟨u', hR⟩ := hq
    exact ⟨.outgrown, u', w', b, hR, comesIn_wide.2 (harr.resolve_left (by simp [b])), rfl, rfl, trivial⟩

theorem elemsD_panic (n b : Nat) (c q : Int) (older : List PanicEntry) (w : World) (h0 : w.cell? ⟨b, 0, none⟩ = some (.bool false)) :
    CallsDIn Fence.wide n Try.prog 30 #[.pointer (some ⟨b, 0, none⟩)] (.panicking ({ v := .iface 74 (fltV c q), recovered := false } :: older)) w fun e u' w' =>
      e = .returned (.tuple #[]) ∧ u' = .panicking ({ v := .iface 74 (fltV c q), recovered := true } :: older) ∧ Below w.heap.size w w' := by
  refine callsDW_of_wpS Try.func30 rfl fun c₀ cs hu => ?_
  refine wpS_seq ?_
  apply wpS_region
  simp [wpOpsS, go_sem, h0, Try.ntmps30, Exit.thenS]
  refine wpS_cond rfl ?_
  simp only [if_true]
  apply wpS_region
  simp [wpOpsS, go_sem, recoverD, hu]
  refine (ended_fault c q w).mono ?_
  rintro e w1 ⟨rfl, hb1⟩
  simp [go_sem, bodyPostS, results, Try.results30]
  exact hb1
theorem elemsD_idle (n b : Nat) (w : World) (h0 : w.cell? ⟨b, 0, none⟩ = some (.bool false)) :
    CallsDIn Fence.wide n Try.prog 30 #[.pointer (some ⟨b, 0, none⟩)] .returning w fun e u' w' =>
      e = .returned (.tuple #[]) ∧ u' = .returning ∧ Below w.heap.size w w' := by
  refine callsDW_of_wpS Try.func30 rfl fun c₀ cs hu => ?_
  refine wpS_seq ?_
  apply wpS_region
  simp [wpOpsS, go_sem, h0, Try.ntmps30, Exit.thenS]
  refine wpS_cond rfl ?_
  simp only [if_true]
  apply wpS_region
  simp [wpOpsS, go_sem, recoverD, hu]
  refine (ended_nil w).mono ?_
  rintro e w1 ⟨rfl, hb1⟩
  cases c₀
  simp_all [go_sem, bodyPostS, results, Try.results30]
theorem elemsD_out (n b : Nat) (w : World) (h0 : w.cell? ⟨b, 0, none⟩ = some (.bool true)) :
    CallsDIn Fence.wide n Try.prog 30 #[.pointer (some ⟨b, 0, none⟩)] .returning w fun e u' w' =>
      e = .returned (.tuple #[]) ∧ u' = .returning ∧ Below w.heap.size w w' := by
  refine callsDW_of_wpS Try.func30 rfl fun c₀ cs hu => ?_
  refine wpS_of_wp ?_
  have hc : ({ c₀ with mode := .returning } : Frame) = c₀ := by rw [← hu]
  simp only [Try.ntmps30, List.size_toArray, List.length_cons, List.length_nil, Nat.reduceAdd, Nat.reduceSub, Array.replicate_succ, Array.replicate_zero, List.push_toArray, List.append_toArray, List.nil_append, List.cons_append]
  go_wp2_with fail
  exact ⟨rfl, .returning, by rw [hc], .tuple #[], by simp [results, Try.results30], rfl, rfl, Below.refl _ _⟩
end Go.Proofs.Ytgfonnjblbpogaa

namespace Go.Proofs.Ytgfonnjblbpogaa
open Go.RowKit Go.Shelf
open BerMath (Hd HR num hAt wAt El TR elEnd endE one andThen kids)
open BtSeq (SeqP postP range_p region_round postP_shut SeqL OwnLow below_put range_l)
attribute [local go_sem] Oper.semAt_some
set_option linter.unusedVariables false

/-- What an element is shown as. -/
abbrev encH (x : El) : Array Value := #[.int .i64 (x.1 : Int), .agg #[.int .i64 (x.2.1.cls : Int), .bool x.2.1.made, .int .i64 (x.2.1.tag : Int), .int .i64 (x.2.1.len : Int), .int .i64 (x.2.1.size : Int)]]
/-- Blocks of cells that are no number's stay. -/
def KV (W W' : World) : Prop := W.heap.size ≤ W'.heap.size ∧ ∀ (k : Nat) (cs : Array Value) (t : TypeId), t ≠ 3 → W.heap[k]? = some (.cells cs t (0, 0)) → W'.heap[k]? = some (.cells cs t (0, 0))
theorem KV.refl (W : World) : KV W W := ⟨Nat.le_refl _, fun _ _ _ _ h => h⟩
theorem KV.trans {A B C : World} (h : KV A B) (h' : KV B C) : KV A C := ⟨Nat.le_trans h.1 h'.1, fun k cs t ht hk => h'.2 k cs t ht (h.2 k cs t ht hk)⟩
theorem KV.of_below {A B : World} (h : Below A.heap.size A B) : KV A B := ⟨h.size, fun k cs t _ hk => (h.block k (Array.getElem?_eq_some_iff.1 hk).1).trans hk⟩
theorem KV.kw {A B : World} (h : KV A B) : KW A B := ⟨h.1, fun k cs t ht hk => h.2 k cs t (by rcases ht with rfl | rfl <;> decide) hk⟩
theorem KV.box {A B : World} {b : Nat} {t : TypeId} {v : Value} (h : KV A B) (hb : Boxed A b t v) (ht : t ≠ 3) : Boxed B b t v := h.2 _ _ _ ht hb
theorem kv_put (W : World) (l : Nat) (o o' : Obj) (hl : W.heap[l]? = some o) (ho : o.isCells = false) : KV W (W.putObj l o') :=
  ⟨by simp [World.putObj], fun k cs t _ hk => by
    rw [World.putObj_heap_other (fun e => by rw [← e, hk] at hl; injection hl with hl; subst hl; cases ho)]
    exact hk⟩
theorem kw_set {W : World} {b : Nat} {v u : Value} (hb : Boxed W b 4 v) : KW W (W.setCell ⟨b, 0, none⟩ u) :=
  ⟨by rw [World.size_setCell]; exact Nat.le_refl _, fun k cs t ht hk => by
    refine (Below.heap_setCell _ _ _ _ (fun e => ?_)).trans hk
    have e' : k = b := e
    subst e'
    rw [show W.heap[k]? = _ from hb] at hk
    injection hk with hk
    injection hk with _ hk
    subst hk
    rcases ht with ht | ht <;> exact absurd ht (by decide)⟩
theorem own_of_low {β : Type} {b : Nat} {J : β → World → Prop} (h : OwnLow b J) (hs : ∀ s A, J s A → b ≤ A.heap.size) : OwnFrom b J := fun s A B row hj hg hr =>
  h s A B hj ⟨hg.os, hg.tape, hg.output, hg.size, fun k hk => hg.block k (Nat.lt_of_lt_of_le hk (hs s A hj)) (fun e => by have := (hr k e.symm).1; omega)⟩
theorem yield_round {m : Nat} (m' l' : Nat) {P : Program} {l : Nat} {args : Array Value} {W : World} {R : Ending → World → Prop} (h : YieldAt Fence.wide m P l args W R) : YieldAt (Fence.wide.inRound l') m' P l args W R := by
  obtain ⟨fn, tmps, assign, body, hy, hR⟩ := h
  exact ⟨fn, tmps, assign, body, hy, hR.1, fun c cs _ => hR.2 c cs (room_wide _)⟩
theorem callsDIn_mono {n : Nat} {P : Program} {f : FuncId} {args : Array Value} {u : FrameMode} {w : World} {R R' : Ending → FrameMode → World → Prop} (h : CallsDIn Fence.wide n P f args u w R) (hr : ∀ e u' w', R e u' w' → R' e u' w') : CallsDIn Fence.wide n P f args u w R' :=
  ⟨h.1, fun c cs hu hroom => let ⟨e, u', w', fr, r, rest⟩ := h.2 c cs hu hroom; ⟨e, u', w', fr, hr _ _ _ r, rest⟩⟩
/-- The iterator's variables. -/
def EI (l : Nat) (J : List El → World → Prop) (W : World) (pre : List El) (U : World) : Prop :=
  J pre U ∧ Boxed U W.heap.size 72 (.func (.yield l) #[] #[]) ∧ Boxed U (W.heap.size + 1) 4 (.bool false) ∧ W.heap.size + 3 ≤ U.heap.size
def EX (Jx : List El → World → Prop) (W : World) (c : Code) (pre : List El) (U : World) : Prop :=
  c = .ret ∧ Jx pre U ∧ Boxed U (W.heap.size + 1) 4 (.bool true) ∧ W.heap.size + 3 ≤ U.heap.size
theorem ei_low {l : Nat} {J : List El → World → Prop} {W : World} (hJ : OwnLow W.heap.size J) : OwnLow (W.heap.size + 3) (EI l J W) := fun s A B h hb => ⟨hJ s A B h.1 (hb.mono (by omega)), (hb.block _ (by omega)).trans h.2.1, (hb.block _ (by omega)).trans h.2.2.1, Nat.le_trans h.2.2.2 hb.size⟩
theorem ex_low {Jx : List El → World → Prop} {W : World} (hJ : OwnLow W.heap.size Jx) (c : Code) : OwnLow (W.heap.size + 3) (EX Jx W c) := fun s A B h hb => ⟨h.1, hJ s A B h.2.1 (hb.mono (by omega)), (hb.block _ (by omega)).trans h.2.2.1, Nat.le_trans h.2.2.2 hb.size⟩

set_option maxRecDepth 100000 in
set_option maxHeartbeats 4000000 in
theorem elems1_any (n : Nat) (h1 : 1 ≤ n) (s : ByteArray) (hm : s.size ≤ 281474976710656) (sb : Nat) (w : World) (hsb : w.heap[sb]? = some (.cells #[.string s] 9 (0, 0))) :
    SeqL n Try.prog 29 #[.pointer (some ⟨sb, 0, none⟩)] encH KV (tr s).1 w := fun l J Jx W hW hJ hJx hY h0 => by
  have hbW : W.heap[sb]? = some (.cells #[.string s] 9 (0, 0)) := (hW.block sb (Array.getElem?_eq_some_iff.1 hsb).1).trans hsb
  have hbl : sb < W.heap.size := (Array.getElem?_eq_some_iff.1 hbW).1
  have cS : W.cell? ⟨sb, 0, none⟩ = some (.string s) := by simp [World.cell?, hbW]
  have hEl : ∀ W', Hid (Calls Try.prog 32 #[.string s] W' fun r w' => r = .returned (.func (.func 54) #[] #[.pointer (some ⟨W'.heap.size, 0, none⟩)]) ∧ w' = W'.alloc (.cells #[.string s] 9)) := fun W' => elements_any s W'
  have hdd : ∀ k : Nat, (Fence.wide.depth.isSome = true → 1 ≤ k) := fun k h => (by cases h)
  have hmf : ∀ (fn : Fn) (first cap : Array Value) (w : World), (Instr.makeFunc fn first cap).run Try.prog w = .ok (.func fn first cap) w := fun _ _ _ _ => rfl
  have hY' : Hid (∀ pre x W1, J pre W1 → (pre ++ [x]) <+: (tr s).1 → YieldAt Fence.wide (n - 1) Try.prog l (encH x) W1 fun e W' => KeepsFrom W.heap.size W1 W' ∧ KV W1 W' ∧ ((e = .returned (.bool true) ∧ J (pre ++ [x]) W') ∨ (e = .returned (.bool false) ∧ Jx (pre ++ [x]) W'))) := hY
  have h0' : Hid (J [] W) := h0
  obtain ⟨R0, hR0⟩ : ∃ R0 : Ending → World → Prop, (fun e W' => (∃ v, e = .returned v) ∧ (J (tr s).1 W' ∨ ∃ pre, pre <+: (tr s).1 ∧ Jx pre W')) = R0 := ⟨_, rfl⟩
  rw [hR0]
  have hR : Hid ((fun e W' => (∃ v, e = .returned v) ∧ (J (tr s).1 W' ∨ ∃ pre, pre <+: (tr s).1 ∧ Jx pre W')) = R0) := hR0
  clear hR0 hY h0 hW hsb
  have cS1 : ((W.alloc (.cells #[.func (.yield l) #[] #[]] 72)).alloc (.cells #[.bool false] 4)).cell? ⟨sb, 0, none⟩ = some (.string s) := by
    rw [World.cell?_alloc_past _ _ _ (by simp; omega), World.cell?_alloc_past _ _ _ hbl]; exact cS
  refine callsIn_of_wp_marks Try.func29 rfl trivial ?_ rfl
  simp only [Try.ntmps29, List.size_toArray, List.length_cons, List.length_nil, Nat.reduceAdd, Nat.reduceSub, Array.replicate_succ, Array.replicate_zero, List.push_toArray, List.append_toArray, List.nil_append, List.cons_append]
  gi_wp2_with (refine ⟨trivial, ?_⟩; gi_at_call 32; refine (callsIn_wide.2 (hEl _).out).mono ?_; rintro r w2 ⟨rfl, rfl⟩)
  obtain ⟨W0, hW0⟩ : ∃ W0, ((W.alloc (.cells #[.func (.yield l) #[] #[]] 72)).alloc (.cells #[.bool false] 4)).alloc (.cells #[.string s] 9) = W0 := ⟨_, rfl⟩
  have hs0 : W0.heap.size = W.heap.size + 3 := by rw [← hW0]; simp
  have hb0 : Below W.heap.size W W0 := by rw [← hW0]; exact (((Below.refl _ _).alloc (Nat.le_refl _) _).alloc (by simp) _).alloc (by simp; omega) _
  have hsb2 : W0.heap[W.heap.size + 2]? = some (.cells #[.string s] 9 (0, 0)) := by
    rw [← hW0]
    have := World.alloc_heap_new ((W.alloc (.cells #[.func (.yield l) #[] #[]] 72)).alloc (.cells #[.bool false] 4)) (.cells #[.string s] 9)
    rwa [World.size_alloc, World.size_alloc] at this
  have hI0 : EI l J W [] W0 := by
    refine ⟨hJ _ _ _ h0'.out hb0, ?_, ?_, by omega⟩
    · rw [← hW0]; exact ((Boxed.new W _ _).alloc _).alloc _
    · rw [← hW0]
      have := Boxed.new (W.alloc (.cells #[.func (.yield l) #[] #[]] 72)) 4 (.bool false)
      rw [World.size_alloc] at this
      exact this.alloc _
  rw [hW0]
  clear cS cS1 hEl
  refine range_p h1 (gf := 54) (lb := #[.pointer (some ⟨W.heap.size + 2, 0, none⟩)]) rfl (enters_of Try.func54 (by kernel_rfl) rfl)
    (elements1_any (n - 1) s hm (W.heap.size + 2) W0 hsb2) (fun h h' => KW.trans h h') (fun W l o o' _ hl ho _ => kw_put 0 W l o o' hl ho) (Below.refl _ _) (fun _ => rfl)
    (EI l J W) (EX Jx W) (by rw [hs0]; exact own_of_low (ei_low hJ) (fun _ _ h => h.2.2.2)) (fun c => by rw [hs0]; exact own_of_low (ex_low hJx c) (fun _ _ h => h.2.2.2)) hI0
    (fun x a' U => ∃ Bx, W.heap.size + 3 ≤ Bx ∧ U.heap[Bx]? = some (elmO x.2.1 (x.2.2 : Int)) ∧ a' = { tmps := #[.func (.yield l) #[] #[], .pointer (some ⟨sb, 0, none⟩), .pointer (some ⟨W.heap.size, 0, none⟩), .pointer (some ⟨W.heap.size + 1, 0, none⟩), .int .i64 (x.1 : Int), .pointer (some ⟨Bx, 0, none⟩), .func (.func 30) #[] #[.pointer (some ⟨W.heap.size + 1, 0, none⟩)], .string s, .func (.func 54) #[] #[.pointer (some ⟨W.heap.size + 2, 0, none⟩)], .int .i64 (x.1 : Int), elmV x.2.1 (x.2.2 : Int), undef, undef, undef, undef, undef, undef], defers := [] })
    ?hAx ?assign ?body ?done ?stop ?panic
  case hAx =>
    rintro x a' _ U U' row ⟨Bx, q1, q2, q3⟩ hg hr
    refine ⟨Bx, q1, (hg.block Bx (Array.getElem?_eq_some_iff.1 q2).1 (fun e => ?_)).trans q2, q3⟩
    obtain ⟨_, o, ho, hc⟩ := hr Bx e.symm
    rw [q2] at ho
    injection ho with ho
    subst ho
    cases hc
  case assign =>
    rintro l' pre ⟨p, h, d⟩ U K hi hp hK
    have hWs := hi.2.2.2
    have hK' := hK { tmps := #[.func (.yield l) #[] #[], .pointer (some ⟨sb, 0, none⟩), .pointer (some ⟨W.heap.size, 0, none⟩), .pointer (some ⟨W.heap.size + 1, 0, none⟩), .int .i64 (p : Int), .pointer (some ⟨U.heap.size, 0, none⟩), .func (.func 30) #[] #[.pointer (some ⟨W.heap.size + 1, 0, none⟩)], .string s, .func (.func 54) #[] #[.pointer (some ⟨W.heap.size + 2, 0, none⟩)], .int .i64 (p : Int), elmV h (d : Int), undef, undef, undef, undef, undef, undef], defers := [] } (U.alloc (elmO h (d : Int))) ((KeepsOthers.alloc U _).from _) (KW.of_below ((Below.refl _ _).alloc (Nat.le_refl _) _)) (ei_low hJ _ _ _ hi ((Below.refl _ _).alloc hWs _)) ⟨U.heap.size, hWs, World.alloc_heap_new U _, rfl⟩
    clear hK hi hp
    gi_wp2
    exact hK'
  case body =>
    rintro l' pre ⟨p, h, d⟩ a' U hl hlr hI ⟨Bx, hBx, hx, rfl⟩ hpx
    obtain ⟨i1, i2, i3, i4⟩ := hI
    have cY := i2.cell
    have cO := i3.cell
    have fO := i3.frozen
    obtain ⟨U1, hU1⟩ : ∃ U1, U.setCell ⟨W.heap.size + 1, 0, none⟩ (.bool true) = U1 := ⟨_, rfl⟩
    have hbU : Below W.heap.size U U1 := by rw [← hU1]; exact (Below.refl _ _).setCell (Nat.le_succ _) _
    have j1 : J pre U1 := hJ _ _ _ i1 hbU
    have k2 : Boxed U1 W.heap.size 72 (.func (.yield l) #[] #[]) := by rw [← hU1]; exact (Below.heap_setCell _ _ _ _ (by show W.heap.size ≠ W.heap.size + 1; omega)).trans i2
    have k3 : Boxed U1 (W.heap.size + 1) 4 (.bool true) := by rw [← hU1]; exact i3.set _
    have kx : U1.heap[Bx]? = some (elmO h (d : Int)) := by rw [← hU1]; exact (Below.heap_setCell _ _ _ _ (by show Bx ≠ W.heap.size + 1; omega)).trans hx
    have kw1 : KW U U1 := by rw [← hU1]; exact kw_set i3
    have kf1 : KeepsFrom W0.heap.size U U1 := by rw [← hU1]; exact (KeepsOthers.setCell _ _ _).from _
    have s1 : W.heap.size + 3 ≤ U1.heap.size := by rw [← hU1, World.size_setCell]; exact i4
    obtain ⟨y0, y1, y2, y3, y4, y5⟩ : U1.cell? ⟨Bx, 0, none⟩ = some (.int .i64 (h.cls : Int)) ∧ U1.cell? ⟨Bx, 1, none⟩ = some (.bool h.made) ∧ U1.cell? ⟨Bx, 2, none⟩ = some (.int .i64 (h.tag : Int)) ∧ U1.cell? ⟨Bx, 3, none⟩ = some (.int .i64 (h.len : Int)) ∧ U1.cell? ⟨Bx, 4, none⟩ = some (.int .i64 (h.size : Int)) ∧ U1.cell? ⟨Bx, 5, none⟩ = some (.int .i64 (d : Int)) := by
      refine ⟨?_, ?_, ?_, ?_, ?_, ?_⟩ <;> simp [World.cell?, kx]
    have cY1 := k2.cell
    obtain ⟨fn, tmps, assign, body, hy, hRd⟩ := yield_round (n - 1 - 1 - 1) l' (hY'.out pre (p, h, d) U1 j1 hpx)
    have hy' : (Instr.yield l #[.int .i64 (p : Int), .agg #[.int .i64 (h.cls : Int), .bool h.made, .int .i64 (h.tag : Int), .int .i64 (h.len : Int), .int .i64 (h.size : Int)]]).run Try.prog U1 = .ok (.round l fn tmps assign body) U1 := hy
    clear hy
    have hend : Hid (∀ U2, KeepsFrom W.heap.size U1 U2 → KV U1 U2 → (J (pre ++ [(p, h, d)]) U2 → U2.cell? ⟨W.heap.size + 1, 0, none⟩ = some (.bool true) ∧ U2.frozen? ⟨W.heap.size + 1, 0, none⟩ = false ∧ postP W0.heap.size KW (EI l J W) (EX Jx W) (pre ++ [(p, h, d)]) U .normal ⟨#[], []⟩ (U2.setCell ⟨W.heap.size + 1, 0, none⟩ (.bool false))) ∧ (Jx (pre ++ [(p, h, d)]) U2 → postP W0.heap.size KW (EI l J W) (EX Jx W) (pre ++ [(p, h, d)]) U .ret ⟨#[], []⟩ U2)) := fun U2 hkf hkv => by
      have m2 := hkv.box k2 (by decide)
      have m3 := hkv.box k3 (by decide)
      have kf2 : KeepsFrom W0.heap.size U U2 := ⟨Nat.le_trans kf1.size hkf.size, fun k o hk q1 q2 => hkf.same k o (by omega) (kf1.same k o hk q1 q2) q2⟩
      have kw2 : KW U U2 := kw1.trans hkv.kw
      refine ⟨fun hj => ⟨m3.cell, m3.frozen, ?_, ?_, ?_, ?_, ?_, ?_⟩, fun hjx => ⟨kf2, kw2, rfl, hjx, m3, Nat.le_trans s1 hkf.size⟩⟩
      · exact kf2.trans ((KeepsOthers.setCell _ _ _).from _)
      · exact kw2.trans (kw_set m3)
      · exact hJ _ _ _ hj ((Below.refl _ _).setCell (Nat.le_succ _) _)
      · exact (Below.heap_setCell _ _ _ _ (by show W.heap.size ≠ W.heap.size + 1; omega)).trans m2
      · exact m3.set _
      · rw [World.size_setCell]; exact Nat.le_trans s1 hkf.size
    clear i1 i2 i3 hx j1 k2 k3 kx kw1 kf1 hpx hbU
    rw [hs0] at hend
    gi_wp2_with fail
    refine ⟨hdd _, hRd.mono ?_⟩
    rintro e U2 ⟨hkf, hkv, ⟨rfl, hj⟩ | ⟨rfl, hjx⟩⟩
    · obtain ⟨z1, z2, z3⟩ := (hend.out U2 hkf hkv).1 hj
      have z4 : Hid _ := z3
      clear z3 hend hj hkf hkv hRd hy'
      gi_wp2_with fail
      first | exact z4.out | (rw [hs0]; exact z4.out)
    · have z4 : Hid _ := (hend.out U2 hkf hkv).2 hjx
      clear hend hjx hkf hkv hRd hy'
      gi_wp2_with fail
      first | exact z4.out | (rw [hs0]; exact z4.out)
  case done =>
    rintro D V hD hr hI hK
    have hI' : EI l J W (tr s).1 (V.putObj D (.deferred none)) := ei_low hJ _ _ _ hI (below_put _ _ (by omega))
    have hfin : Hid (∀ V', Below (V.putObj D (.deferred none)).heap.size (V.putObj D (.deferred none)) V' → R0 (.returned (.tuple #[])) V') := fun V' hb => by
      rw [← hR.out]
      exact ⟨⟨_, rfl⟩, Or.inl (hJ _ _ _ hI'.1 (hb.mono (by have := hI'.2.2.2; omega)))⟩
    have cO := hI'.2.2.1.cell
    clear hI hI' hR hI0 hY' h0'
    gi_wp2
    refine ⟨by simp, .inl ⟨_, _, rfl, run_takeDeferred hK, by simp, .inr ⟨hdd _, _, _, 30, #[.pointer (some ⟨W.heap.size + 1, 0, none⟩)], rfl, by simp [invoke, go_sem], fun _ _ => trivial, callsDIn_mono (elemsD_idle _ (W.heap.size + 1) _ cO) ?_⟩⟩⟩
    rintro e u' V' ⟨rfl, rfl, hb⟩
    exact ⟨_, results_none rfl _ _ _, hfin.out _ hb⟩
  case stop =>
    rintro D c pre V hD hp hX hK
    have hX' : EX Jx W c pre (V.putObj D (.deferred none)) := ex_low hJx c _ _ _ hX (below_put _ _ (by omega))
    obtain ⟨rfl, x2, x3, x4⟩ := hX'
    have hfin : Hid (∀ V', Below (V.putObj D (.deferred none)).heap.size (V.putObj D (.deferred none)) V' → R0 (.returned (.tuple #[])) V') := fun V' hb => by
      rw [← hR.out]
      exact ⟨⟨_, rfl⟩, Or.inr ⟨pre, hp, hJx _ _ _ x2 (hb.mono (by omega))⟩⟩
    have cO := x3.cell
    clear hX x2 x3 x4 hR hI0 hY' h0'
    gi_wp2
    refine ⟨by simp, .inl ⟨_, _, rfl, run_takeDeferred hK, by simp, .inr ⟨hdd _, _, _, 30, #[.pointer (some ⟨W.heap.size + 1, 0, none⟩)], rfl, by simp [invoke, go_sem], fun _ _ => trivial, callsDIn_mono (elemsD_out _ (W.heap.size + 1) _ cO) ?_⟩⟩⟩
    rintro e u' V' ⟨rfl, rfl, hb⟩
    exact ⟨_, results_none rfl _ _ _, hfin.out _ hb⟩
  case panic =>
    rintro D ch V hD hr hI hK
    obtain ⟨f, hf, rfl⟩ : ∃ f, (tr s).2 = some f ∧ ch = flt f := by
      cases h : (tr s).2 with
      | none => rw [h] at hr; cases hr
      | some f => rw [h] at hr; injection hr with hr; exact ⟨f, rfl, hr.symm⟩
    have hI' : EI l J W (tr s).1 (V.putObj D (.deferred none)) := ei_low hJ _ _ _ hI (below_put _ _ (by omega))
    have hfin : Hid (∀ V', Below (V.putObj D (.deferred none)).heap.size (V.putObj D (.deferred none)) V' → R0 (.returned (.tuple #[])) V') := fun V' hb => by
      rw [← hR.out]
      exact ⟨⟨_, rfl⟩, Or.inl (hJ _ _ _ hI'.1 (hb.mono (by have := hI'.2.2.2; omega)))⟩
    have cO := hI'.2.2.1.cell
    clear hI hI' hR hI0 hY' h0'
    refine ⟨by simp, .inl ⟨_, _, rfl, run_takeDeferred hK, by simp, .inr ⟨hdd _, _, _, 30, #[.pointer (some ⟨W.heap.size + 1, 0, none⟩)], rfl, by simp [invoke, go_sem], fun _ _ => trivial, callsDIn_mono (elemsD_panic _ (W.heap.size + 1) (f.1 : Int) (f.2 : Int) [] _ cO) ?_⟩⟩⟩
    rintro e u' V' ⟨rfl, rfl, hb⟩
    exact ⟨_, results_none rfl _ _ _, hfin.out _ hb⟩
end Go.Proofs.Ytgfonnjblbpogaa

namespace Go.Proofs.Ytgfonnjblbpogaa
open Go.RowKit Go.Shelf
open BerMath (Hd HR num hAt wAt El TR elEnd endE one andThen kids)
set_option linter.unusedVariables false

theorem elems_any (s : ByteArray) (w : World) : Calls Try.prog 9 #[.string s] w fun r w' => r = .returned (.func (.func 29) #[] #[.pointer (some ⟨w.heap.size, 0, none⟩)]) ∧ w' = w.alloc (.cells #[.string s] 9) := by
  have hmf : ∀ (fn : Fn) (first cap : Array Value) (w : World), (Instr.makeFunc fn first cap).run Try.prog w = .ok (.func fn first cap) w := fun _ _ _ _ => rfl
  go_enter Try.func9, Try.ntmps9
  go_wp2_with fail
  go_ret
  exact ⟨rfl, rfl⟩
theorem nilq_at (d : Nat) (v : Array Value) (W : World) : (Op.equalIn (d + 1) 25 (.func (.func 29) #[] v) .nilFunc).run Try.prog W = .ok false W := by
  simp [Op.equalIn, run_underlying Try.underlying25]
theorem nilq_eq (v : Array Value) (W : World) : (Op.equal 25 (.func (.func 29) #[] v) .nilFunc).run Try.prog W = .ok false W := nilq_at 9999 v W
theorem nil_seq (v : Array Value) (W : World) : (binOp .eql 25 (.func (.func 29) #[] v) .nilFunc).run Try.prog W = .ok (.bool false) W := by
  simp only [binOp]
  simp [nilq_eq v W]
theorem wp_one (m : Nat) (h : m ≤ 4294967296) : wrap64 ((m : Int) + 1) = ((m + 1 : Nat) : Int) := by unfold wrap64; omega
theorem wp_sum (a b : Nat) (h : a + b ≤ 4294967296) : wrap64 ((a : Int) + (b : Int)) = ((a + b : Nat) : Int) := by unfold wrap64; omega
theorem kv_set {W : World} {b : Nat} {v u : Value} (hb : Boxed W b 3 v) : KV W (W.setCell ⟨b, 0, none⟩ u) :=
  ⟨by rw [World.size_setCell]; exact Nat.le_refl _, fun k cs t ht hk => by
    refine (Below.heap_setCell _ _ _ _ (fun e => ?_)).trans hk
    have e' : k = b := e
    subst e'
    rw [show W.heap[k]? = _ from hb] at hk
    injection hk with hk
    injection hk with _ hk
    exact ht hk.symm⟩
end Go.Proofs.Ytgfonnjblbpogaa
