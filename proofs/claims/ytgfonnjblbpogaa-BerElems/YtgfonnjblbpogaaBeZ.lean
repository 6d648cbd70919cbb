import Derived.Test.YtgfonnjblbpogaaBeX
import Derived.BigQuiet
import Derived.Test.YtgfonnjblbpogaaBrW
namespace Go.Proofs.Ytgfonnjblbpogaa
namespace BtSeq
open Go.RowKit Go.Shelf
set_option linter.unusedVariables false

/-- The same, in a round of another loop. -/
theorem range_n {n : Nat} {P : Program} {α : Type} {g : Operand} {ps : Array Tmp} {assign body : Code} {Q : Exit → Act → World → Prop} {a : Act} {w : World}
    {l₀ : Nat} {r₀ : Loop} (hl₀ : w.heap[l₀]? = some (.loop r₀)) (h1 : 1 ≤ n) {gf : Nat} {lb : Array Value} (hg : a.eval g = .func (.func gf) #[] lb) (eg : ∀ args w, (callFunc gf args).run P w = .ok (.enter gf args) w)
    {encs : α → Array Value} {Kp : World → World → Prop} {L : List α} {w0 : World} (hseq : SeqL (n - 1) P gf lb encs Kp L w0)
    (hKt : ∀ {A B C : World}, Kp A B → Kp B C → Kp A C) (hKb : ∀ (W : World) (l : Nat) (o o' : Obj), w.heap.size ≤ l → W.heap[l]? = some o → o.isCells = false → o.isWalk = false → Kp W (W.putObj l o'))
    (hb0 : Below w0.heap.size w0 w) (hps : ∀ x, (encs x).size = ps.size)
    (I : List α → World → Prop) (Ix : Code → List α → World → Prop) (hI : OwnLow w.heap.size I) (hIx : ∀ c, OwnLow w.heap.size (Ix c)) (h0 : I [] w)
    (Ax : α → Act → World → Prop) (hAx : ∀ x a', OwnFrom w.heap.size (fun (_ : Unit) W => Ax x a' W))
    (hassign : ∀ (l : Nat) (pre : List α) (x : α) (W : World) (K : Act → World → Prop), I pre W → (pre ++ [x]) <+: L → (∀ a' W', KeepsFrom w.heap.size W W' → Kp W W' → I pre W' → Ax x a' W' → K a' W') →
      assign.wpIn (Fence.wide.inRound l) (n - 1 - 1) P (Exit.then K (fun _ _ _ => False)) { tmps := (ps.zip (encs x)).foldl (fun t (p, v) => t.setIfInBounds p v) a.tmps, defers := [] } W)
    (hbody : ∀ (l : Nat) (pre : List α) (x : α) (a' : Act) (W : World), w.heap.size ≤ l → (∃ r, W.heap[l]? = some (.loop r)) → I pre W → Ax x a' W → (pre ++ [x]) <+: L → body.wpIn (Fence.wide.inRound l) (n - 1 - 1) P (postP w.heap.size Kp I Ix (pre ++ [x]) W) a' W)
    (hdone : ∀ (W : World), I L W → Q .normal a W)
    (hstop : ∀ (c : Code) (pre : List α) (W : World), pre <+: L → Ix c pre W → c.wpIn (Fence.wide.inRound l₀) n P Q a W) :
    (Code.rangeFunc g ps assign body).wpIn (Fence.wide.inRound l₀) n P Q a w := by
  refine wpIn_rangeFunc (fun fn hfn => ?_)
  obtain ⟨R, hR⟩ : ∃ R : LoopState → Option Code → Loop, R = fun s p => { state := s, pending := p, fn, tmps := a.tmps, params := ps, assign, body, defers := r₀.defers } := ⟨_, rfl⟩
  let V : World := w.alloc (.loop (R .ready none))
  have vs : V.heap.size = w.heap.size + 1 := by simp [V]
  have hbV : Below w.heap.size w V := (Below.refl _ w).alloc (Nat.le_refl _) _
  have vl : V.heap[w.heap.size]? = some (.loop (R .ready none)) := World.alloc_heap_new w _
  have hent : (Instr.enterLoop fn a.tmps ps assign body (Fence.wide.inRound l₀).round).run P w = .ok (w.heap.size, []) V := by
    have := run_enterLoop_inner (P := P) (w := w) hl₀ fn a.tmps ps assign body
    rw [show (Fence.wide.inRound l₀).round = some l₀ from rfl, this]
    show _ = Result.ok _ (w.alloc (.loop (R .ready none)))
    rw [hR]
  refine ⟨w.heap.size, [], V, { target := .fn (.func gf) lb, args := #[.func (.yield w.heap.size) #[] #[]] }, V, gf, #[.func (.yield w.heap.size) #[] #[]] ++ lb, V, hent, ?_, fun _ _ => trivial, ?_, fun _ => h1, ?_⟩
  · simp only [resolve, hg]
    simp [go_sem]
  · simp [invoke, go_sem, eg]
  refine (CallsIn.inRound l₀ (hseq w.heap.size
    (fun pre W => I pre W ∧ W.heap[w.heap.size]? = some (.loop (R .ready none)))
    (fun pre W => ∃ c, Ix c pre W ∧ W.heap[w.heap.size]? = some (.loop (R .done (some c))))
    V (hb0.trans (hbV.mono hb0.size)) (fun s A B hs hb => ⟨hI s A B hs.1 (hb.mono (by omega)), (hb.block _ (by omega)).trans hs.2⟩)
    (fun s A B hs hb => by
      obtain ⟨c, q1, q2⟩ := hs
      exact ⟨c, hIx c s A B q1 (hb.mono (by omega)), (hb.block _ (by omega)).trans q2⟩) ?round ⟨hI _ _ _ h0 hbV, vl⟩)).mono ?behind
  case behind =>
    rintro e U ⟨⟨v, rfl⟩, ⟨q1, q2⟩ | ⟨pre, hp, c, q1, q2⟩⟩
    · have he := run_endLoop (P := P) q2 (by rw [hR]; simp)
      rw [hR] at he
      exact ⟨none, _, he, hdone _ (hI _ _ _ q1 (below_put _ _ (Nat.le_refl _)))⟩
    · have he := run_endLoop (P := P) q2 (by rw [hR]; simp)
      rw [hR] at he
      exact ⟨some c, _, he, hstop c pre _ hp (hIx c _ _ _ q1 (below_put _ _ (Nat.le_refl _)))⟩
  case round =>
    rintro pre x U ⟨u1, u2⟩ hpx
    have hy := run_yield (P := P) (args := encs x) u2 (by rw [hR]; exact hps x)
    rw [hR] at hy
    refine ⟨fn, _, assign, body, hy, roundIn_of_wpIn hfn (hassign _ pre x U _ u1 hpx ?_)⟩
    clear hy
    intro a' U0 hk0 hkp0 i0 ax0
    have us0 : w.heap.size < U.heap.size := (Array.getElem?_eq_some_iff.1 u2).1
    have u2' : U0.heap[w.heap.size]? = some (.loop (R .ready none)) := hk0.same _ _ (Nat.le_refl _) u2 rfl
    have us : w.heap.size < U0.heap.size := (Array.getElem?_eq_some_iff.1 u2').1
    refine ⟨_, run_beginRound u2' (by rw [hR]), ?_⟩
    obtain ⟨U1, hU1⟩ : ∃ U1, U0.putObj (w.heap.size) (.loop { R .ready none with state := .busy }) = U1 := ⟨_, rfl⟩
    have b1 : U1.heap[w.heap.size]? = some (.loop { R .ready none with state := .busy }) := by rw [← hU1]; exact World.putObj_heap_same us
    have b3 : I pre U1 := by rw [← hU1]; exact hI _ _ _ i0 (below_put _ _ (Nat.le_refl _))
    have b3' : Ax x a' U1 := by rw [← hU1]; exact (hAx x a').putObj (s := ()) _ ax0 (by omega) u2' rfl
    have b4 : Kp U0 U1 := by rw [← hU1]; exact hKb _ _ _ _ (by omega) u2' rfl rfl
    rw [hU1]
    refine wpIn_mono (hbody _ pre x a' U1 (by omega) ⟨_, b1⟩ b3 b3' hpx) ?_
    have fin : ∀ (j : Option Code) (U2 : World), KeepsFrom w.heap.size U1 U2 → U2.heap[w.heap.size]? = some (.loop { R .ready none with state := .busy }) ∧
        (Instr.endRound (w.heap.size) j).run P U2 = .ok (.bool j.isNone) (U2.putObj (w.heap.size) (.loop (R (if j.isNone then .ready else .done) j))) ∧
        (U2.putObj (w.heap.size) (.loop (R (if j.isNone then .ready else .done) j))).heap[w.heap.size]? = some (.loop (R (if j.isNone then .ready else .done) j)) := fun j U2 hk => by
      have c1 := hk.same _ _ (Nat.le_refl _) b1 rfl
      have c3 := run_endRound (P := P) j c1
      refine ⟨c1, ?_, World.putObj_heap_same (Array.getElem?_eq_some_iff.1 c1).1⟩
      rw [hR] at c3 ⊢
      exact c3
    have kf : ∀ (o' : Obj) (U2 : World), KeepsFrom w.heap.size U1 U2 → KeepsFrom V.heap.size U (U2.putObj (w.heap.size) o') := fun o' U2 hk => by
      have s0 := hk0.size
      have s1 : U1.heap.size = U0.heap.size := by rw [← hU1]; simp [World.putObj]
      have s2 := hk.size
      refine ⟨by simp only [World.putObj, Array.size_setIfInBounds]; omega, fun k o hk1 hk2 hk3 => ?_⟩
      have e0 : U0.heap[k]? = some o := hk0.same k o (by omega) hk2 hk3
      have e1 : U1.heap[k]? = some o := by rw [← hU1]; exact (World.putObj_heap_other (by omega)).trans e0
      exact (World.putObj_heap_other (by omega)).trans (hk.same k o (by omega) e1 hk3)
    rintro e a3 U2 hp
    cases e with
    | normal =>
      obtain ⟨c0, c1, c2⟩ := fin none U2 hp.1
      exact ⟨_, _, c1, kf _ _ hp.1, hKt (hKt (hKt hkp0 b4) hp.2.1) (hKb _ _ _ _ (by omega) c0 rfl rfl), .inl ⟨rfl, hI _ _ _ hp.2.2 (below_put _ _ (Nat.le_refl _)), c2⟩⟩
    | ret =>
      obtain ⟨c0, c1, c2⟩ := fin (some .ret) U2 hp.1
      exact ⟨_, _, c1, kf _ _ hp.1, hKt (hKt (hKt hkp0 b4) hp.2.1) (hKb _ _ _ _ (by omega) c0 rfl rfl), .inr ⟨rfl, _, hIx _ _ _ _ hp.2.2 (below_put _ _ (Nat.le_refl _)), c2⟩⟩
    | exit i =>
      obtain ⟨c0, c1, c2⟩ := fin (some (.exit i)) U2 hp.1
      exact ⟨_, _, c1, kf _ _ hp.1, hKt (hKt (hKt hkp0 b4) hp.2.1) (hKb _ _ _ _ (by omega) c0 rfl rfl), .inr ⟨rfl, _, hIx _ _ _ _ hp.2.2 (below_put _ _ (Nat.le_refl _)), c2⟩⟩
    | goto t =>
      obtain ⟨c0, c1, c2⟩ := fin (some (.goto t)) U2 hp.1
      exact ⟨_, _, c1, kf _ _ hp.1, hKt (hKt (hKt hkp0 b4) hp.2.1) (hKb _ _ _ _ (by omega) c0 rfl rfl), .inr ⟨rfl, _, hIx _ _ _ _ hp.2.2 (below_put _ _ (Nat.le_refl _)), c2⟩⟩
    | panic c => exact hp.elim
    | outgrown => exact hp.elim


/-- No operation defers. -/
def notDefer : Op → Bool
  | .defer _ => false
  | _ => true
theorem nd_of {ops : Array Oper} (h : ops.all (fun o => notDefer o.op) = true) : ∀ (i : Nat) (o : Oper), ops[i]? = some o → ∀ c, o.op ≠ .defer c := fun i o hi c e => by
  have hm := Array.all_eq_true.1 h i (Array.getElem?_eq_some_iff.1 hi).1
  rw [(Array.getElem?_eq_some_iff.1 hi).2, e] at hm
  cases hm
/-- A region that draws its order and only reads, in a round: one walk. -/
theorem region_quiet {l n id : Nat} {P : Program} {L : List Oper} {Q : Exit → Act → World → Prop} {a : Act} {w : World} (hm : P.follows .mixedOrders = true) (hB : Region.lexB .any L.toArray = true) (hnd : L.toArray.all (fun o => notDefer o.op) = true) (hno : ¬ LetsOut Q)
    (h : wpQuiet P L.toArray (fun w' => ∃ n, w' = w.drewN n) (fun a' => ∀ w', (∃ n, w' = w.drewN n) → Q .normal a' w') L a) : (Code.region id L.toArray true).wpIn (Fence.wide.inRound l) n P Q a w :=
  wpIn_region_draw fun t => ops_round (nd_of hnd) hno _ _ _ (by
    simp only [Region.lexB, Bool.and_eq_true] at hB
    simp only [Region.schedule, hm, Bool.true_or, if_true]
    refine wpAny_sound L.toArray.size t _ a _ (wpAny_of_quiet (Q := fun a' => ∀ w', (∃ n, w' = w.drewN n) → Q .normal a' w') (fun _ w' hw' h => h w' hw') _ _ _ _ ⟨1, rfl⟩ ?_)
    have := wpAnyQ_lex (C := fun w' => ∃ n, w' = w.drewN n) (md := .any) hB.1 L 0 (Array.replicate L.toArray.size false) a (by simp) (by simpa using hB.2) h
    simpa using this)
end BtSeq
end Go.Proofs.Ytgfonnjblbpogaa

namespace Go.Proofs.Ytgfonnjblbpogaa
open Go.RowKit BnI
open BerMath (Hd HR num hAt wAt El TR elEnd endE one andThen kids)
set_option linter.unusedVariables false
namespace BrM
theorem pv_at (l : List El) (i : Nat) (hi : i < l.length) (j : Nat) (hj : j < 6) : (pv l)[i * 6 + j]? = (plV l[i])[j]? := by
  induction l generalizing i with
  | nil => simp at hi
  | cons x l ih =>
    cases i with
    | zero =>
      show (plV x ++ pv l)[0 * 6 + j]? = _
      rw [List.getElem?_append_left (by simp [plV]; omega)]
      simp
    | succ i =>
      show (plV x ++ pv l)[(i + 1) * 6 + j]? = _
      have e : (i + 1) * 6 + j = (plV x).length + (i * 6 + j) := by simp [plV]; omega
      rw [e, List.getElem?_append_right (by omega), Nat.add_sub_cancel_left, ih i (by simpa using hi)]
      rfl
theorem w_up1 (i : Nat) (h : i ≤ 281474976710656) : wrap64 ((i : Int) + 1) = (i : Int) + 1 := by unfold wrap64; omega
theorem meas_up (k i : Nat) (h : i < k) : k - (intOf (.int .i64 ((i : Int) + 1))).toNat < k - (intOf (.int .i64 (i : Int))).toNat := by
  simp [intOf]
  omega
def PRow (w : World) (a : Option Addr) (l : List El) : Prop := ∀ i (hi : i < l.length), ∃ b, a = some ⟨b, 0, none⟩ ∧ ∀ j v, (plV l[i])[j]? = some v → w.cell? ⟨b, i * 6 + j, none⟩ = some v
theorem ownP_any {w : World} {B : Nat} {v : Value} {l : List El} (h : OwnP w B v l) : ∃ a c, v = .slice a l.length c ∧ PRow w a l := by
  have h0 := h
  rcases h.2 with ⟨rfl, hn⟩ | ⟨g, cap, cur, rfl, _⟩
  · have hl : l = [] := List.eq_nil_of_length_eq_zero hn
    subst hl
    exact ⟨none, 0, rfl, fun i hi => by simp at hi⟩
  · refine ⟨_, _, rfl, fun i hi => ⟨g, rfl, fun j u hj => ?_⟩⟩
    have hj6 : j < 6 := by
      rcases Nat.lt_or_ge j 6 with q | q
      · exact q
      · rw [List.getElem?_eq_none (by simp [plV]; omega)] at hj; cases hj
    have hc := World.ownsRow.cellAt (show w.ownsRow B 31 6 _ l.length (pv l) from h0) (i * 6 + j) (by omega)
    rw [hc, pv_at l i hi j hj6]
    exact hj
theorem PRow.below {w w' : World} {a : Option Addr} {l : List El} (h : PRow w a l) (hb : Below w.heap.size w w') : PRow w' a l := fun i hi => by
  obtain ⟨b, e, hc⟩ := h i hi
  refine ⟨b, e, fun j v hv => ?_⟩
  have h1 := hc j v hv
  rw [hb.cell (World.block_lt_of_cell? w _ h1)]
  exact h1
theorem relems_any (s : ByteArray) (w : World) (hm : s.size ≤ 140737488355328) :
    Calls Try.prog 8 #[.string s] w fun r w' => ∃ lv, r = .returned lv ∧ OwnP w' w.heap.size lv (tr s).1 ∧ Below w.heap.size w w' := by
  have HW : Hid (Calls Try.prog 28 #[.string s] w fun r w' => WkQ s w.heap.size r w' ∧ Below w.heap.size w w') := rwalk_any s w hm
  go_enter Try.func8, Try.ntmps8
  go_wp2_with fail
  refine HW.out.mono ?_
  rintro r w1 ⟨⟨lv, dv, c, q, rfl, ho, _, _⟩, hb⟩
  clear HW
  go_wp2_with fail
  go_ret
  exact ⟨lv, rfl, ho, hb⟩
end BrM
end Go.Proofs.Ytgfonnjblbpogaa

namespace Go.Proofs.Ytgfonnjblbpogaa
open Go.RowKit Go.Shelf
open BerMath (Hd HR num hAt wAt El TR elEnd endE one andThen kids)
open BtSeq (SeqP postP range_p region_round postP_shut SeqL OwnLow below_put range_l range_n region_quiet)
open BrM (PRow OwnP relems_any ownP_any plV)
attribute [local go_sem] Oper.semAt_some
set_option linter.unusedVariables false

/-- What the law holds fast: the list, the iterator; w2: the world when both were made. -/
def CX (w2 : World) (la : Option Addr) (N lc : Nat) (X : ByteArray) (U : World) : Prop :=
  Below w2.heap.size w2 U ∧ Boxed U w2.heap.size 22 (.slice la N lc) ∧ Boxed U (w2.heap.size + 1) 9 (.string X) ∧ Boxed U (w2.heap.size + 2) 25 (.func (.func 29) #[] #[.pointer (some ⟨w2.heap.size + 1, 0, none⟩)]) ∧ w2.heap.size + 4 ≤ U.heap.size
theorem CX.low {w2 : World} {la : Option Addr} {N lc : Nat} {X : ByteArray} {A B : World} (h : CX w2 la N lc X A) {b : Nat} (hb : Below b A B) (h4 : w2.heap.size + 3 ≤ b) : CX w2 la N lc X B :=
  ⟨h.1.trans (hb.mono (by omega)), (hb.block _ (by omega)).trans h.2.1, (hb.block _ (by omega)).trans h.2.2.1, (hb.block _ (by omega)).trans h.2.2.2.1, Nat.le_trans h.2.2.2.2 hb.size⟩
/-- A number's box that is none of them is written. -/
theorem CX.set {w2 : World} {la : Option Addr} {N lc : Nat} {X : ByteArray} {A : World} (h : CX w2 la N lc X A) {k : Nat} (hk : w2.heap.size + 3 ≤ k) (v : Value) : CX w2 la N lc X (A.setCell ⟨k, 0, none⟩ v) :=
  h.low (b := w2.heap.size + 3) ((Below.refl _ _).setCell hk _) (Nat.le_refl _)

theorem ne_hdr (c : Int) (m : Bool) (t l z : Int) (W : World) :
    (binOp .neq 29 (.agg #[.int .i64 c, .bool m, .int .i64 t, .int .i64 l, .int .i64 z]) (.agg #[.int .i64 c, .bool m, .int .i64 t, .int .i64 l, .int .i64 z])).run Try.prog W = .ok (.bool false) W := by
  have hS : Try.prog.underlying 29 = some (.struct (Try.prog.fieldsOf 29)) := by kernel_rfl
  have hp : Try.prog.stoodInHeld 29 = false := by kernel_rfl
  rw [run_neq_struct, run_equalIn_struct _ _ _ _ _ hS hp]
  simp only [Program.fieldsOf, Try.underlying29]
  simp [Op.eqFields, go_sem]
abbrev hdO (h : Hd) : Obj := .cells #[.int .i64 (h.cls : Int), .bool h.made, .int .i64 (h.tag : Int), .int .i64 (h.len : Int), .int .i64 (h.size : Int)] 29 (0, 0)
theorem wpIn_act {c : Code} {F : Fence} {n : Nat} {P : Program} {Q : Exit → Act → World → Prop} {a : Act} {w : World} (h : ∀ a0, a0 = a → c.wpIn F n P Q a0 w) : c.wpIn F n P Q a w := h a rfl
/-- The m-th of the list, as it lies and as it is shown. -/
theorem place_at {w2 : World} {la : Option Addr} {N lc : Nat} {X : ByteArray} (hrow : PRow w2 la (tr X).1) (hN : (tr X).1.length = N) {pre : List El} {x : El} (hpx : (pre ++ [x]) <+: (tr X).1) {U : World} (hC : CX w2 la N lc X U) :
    pre.length < N ∧ ∃ b, la = some ⟨b, 0, none⟩ ∧ U.cell? ⟨b, pre.length * 6, none⟩ = some (.int .i64 (x.1 : Int)) ∧ U.cell? ⟨b, pre.length * 6 + 1, none⟩ = some (.int .i64 (x.2.1.cls : Int)) ∧ U.cell? ⟨b, pre.length * 6 + 2, none⟩ = some (.bool x.2.1.made) ∧ U.cell? ⟨b, pre.length * 6 + 3, none⟩ = some (.int .i64 (x.2.1.tag : Int)) ∧ U.cell? ⟨b, pre.length * 6 + 4, none⟩ = some (.int .i64 (x.2.1.len : Int)) ∧ U.cell? ⟨b, pre.length * 6 + 5, none⟩ = some (.int .i64 (x.2.1.size : Int)) := by
  have hlt : pre.length < (tr X).1.length := by
    have := hpx.length_le
    rw [List.length_append] at this
    simp at this
    omega
  have hx : (tr X).1[pre.length] = x := by
    obtain ⟨t, ht⟩ := hpx
    have : (tr X).1[pre.length]? = some x := by rw [← ht]; simp
    rw [List.getElem?_eq_getElem hlt] at this
    injection this
  obtain ⟨b, e, hc⟩ := (hrow.below hC.1) pre.length hlt
  rw [hx] at hc
  refine ⟨by omega, b, e, hc 0 _ rfl, hc 1 _ rfl, hc 2 _ rfl, hc 3 _ rfl, hc 4 _ rfl, hc 5 _ rfl⟩
theorem hd_cells {U : World} {Hx : Nat} {h : Hd} (q : U.heap[Hx]? = some (hdO h)) : U.cell? ⟨Hx, 0, none⟩ = some (.int .i64 (h.cls : Int)) ∧ U.cell? ⟨Hx, 1, none⟩ = some (.bool h.made) ∧ U.cell? ⟨Hx, 2, none⟩ = some (.int .i64 (h.tag : Int)) ∧ U.cell? ⟨Hx, 3, none⟩ = some (.int .i64 (h.len : Int)) ∧ U.cell? ⟨Hx, 4, none⟩ = some (.int .i64 (h.size : Int)) := by
  refine ⟨?_, ?_, ?_, ?_, ?_⟩ <;> simp [World.cell?, q]
/-- The first loop's variables. -/
def I1 (w2 : World) (la : Option Addr) (N lc : Nat) (X : ByteArray) (pre : List El) (U : World) : Prop := CX w2 la N lc X U ∧ Boxed U (w2.heap.size + 3) 3 (.int .i64 (pre.length : Int))
def X1 (w2 : World) (la : Option Addr) (N lc : Nat) (X : ByteArray) (stop : Int) (c : Code) (pre : List El) (U : World) : Prop := c = .exit 0 ∧ I1 w2 la N lc X pre U ∧ (pre.length : Int) = stop
theorem i1_low {w2 : World} {la : Option Addr} {N lc : Nat} {X : ByteArray} : OwnLow (w2.heap.size + 4) (I1 w2 la N lc X) := fun s A B h hb => ⟨h.1.low hb (by omega), (hb.block _ (by omega)).trans h.2⟩
theorem x1_low {w2 : World} {la : Option Addr} {N lc : Nat} {X : ByteArray} {stop : Int} (c : Code) : OwnLow (w2.heap.size + 4) (X1 w2 la N lc X stop c) := fun s A B h hb => ⟨h.1, i1_low s A B h.2.1 hb, h.2.2⟩
def I2 (w2 : World) (la : Option Addr) (N lc : Nat) (X : ByteArray) (D1 : Nat) (pre : List El) (U : World) : Prop := CX w2 la N lc X U ∧ Boxed U (w2.heap.size + 3) 3 (.int .i64 (pre.length : Int)) ∧ U.heap[D1]? = some (.deferred (some []))
theorem i2_low {w2 : World} {la : Option Addr} {N lc : Nat} {X : ByteArray} {D1 b : Nat} (h1 : D1 < b) (h2 : w2.heap.size + 4 ≤ b) : OwnLow b (I2 w2 la N lc X D1) := fun s A B h hb => ⟨h.1.low hb (by omega), (hb.block _ (by omega)).trans h.2.1, (hb.block _ h1).trans h.2.2⟩
/-- The innermost loop's variables: its own number lies at g; U: the world in which the round of the loop about it began. -/
def I3 (w2 : World) (la : Option Addr) (N lc : Nat) (X : ByteArray) (D1 mm g V : Nat) (U : World) (pre : List El) (Z : World) : Prop :=
  CX w2 la N lc X Z ∧ Boxed Z (w2.heap.size + 3) 3 (.int .i64 (mm : Int)) ∧ Boxed Z g 3 (.int .i64 (pre.length : Int)) ∧ Z.heap[D1]? = some (.deferred (some [])) ∧ KV U Z ∧ KeepsFrom V U Z
theorem i3_low {w2 : World} {la : Option Addr} {N lc : Nat} {X : ByteArray} {D1 mm g V b : Nat} {U : World} (h1 : D1 < b) (h2 : w2.heap.size + 4 ≤ b) (h3 : g < b) (h4 : U.heap.size ≤ b) : OwnLow b (I3 w2 la N lc X D1 mm g V U) := fun s A B h hb =>
  ⟨h.1.low hb (by omega), (hb.block _ (by omega)).trans h.2.1, (hb.block _ h3).trans h.2.2.1, (hb.block _ h1).trans h.2.2.2.1,
   ⟨Nat.le_trans h.2.2.2.2.1.1 hb.size, fun k cs t ht hk => (hb.block k (Nat.lt_of_lt_of_le (Array.getElem?_eq_some_iff.1 hk).1 h4)).trans (h.2.2.2.2.1.2 k cs t ht hk)⟩,
   ⟨Nat.le_trans h.2.2.2.2.2.size hb.size, fun k o hk q1 q2 => (hb.block k (Nat.lt_of_lt_of_le (Array.getElem?_eq_some_iff.1 q1).1 h4)).trans (h.2.2.2.2.2.same k o hk q1 q2)⟩⟩
theorem below_drewN (b : Nat) (U : World) (q : Nat) : Below b U (U.drewN q) := ⟨rfl, rfl, rfl, Nat.le_refl _, fun _ _ => rfl⟩

set_option maxRecDepth 100000 in
set_option maxHeartbeats 4000000 in
theorem berElems_walk (X : ByteArray) (stop : Int) (w : World) (hX : X.size ≤ 140737488355328) :
    Calls Try.prog 3 #[.string X, .int .i64 stop] w fun e w' => e = .returned (.bool true) ∧ Below w.heap.size w w' := by
  have hdd : ∀ k : Nat, (Fence.wide.depth.isSome = true → 1 ≤ k) := fun k h => (by cases h)
  have hmix : Try.prog.follows .mixedOrders = true := by kernel_rfl
  obtain ⟨W1, hW1⟩ : ∃ W1, (w.alloc (.cells #[.int .i64 stop] 3)).alloc (.cells #[.bool false] 4) = W1 := ⟨_, rfl⟩
  have hB1 : Below w.heap.size w W1 := by rw [← hW1]; exact ((Below.refl _ _).alloc (Nat.le_refl _) _).alloc (by simp) _
  have bS1 : Boxed W1 w.heap.size 3 (.int .i64 stop) := by rw [← hW1]; exact (Boxed.new w _ _).alloc _
  have bR1 : Boxed W1 (w.heap.size + 1) 4 (.bool false) := by
    rw [← hW1]
    have := Boxed.new (w.alloc (.cells #[.int .i64 stop] 3)) 4 (.bool false)
    rwa [World.size_alloc] at this
  have HR : Hid (Calls Try.prog 8 #[.string X] W1 fun r w' => ∃ lv, r = .returned lv ∧ OwnP w' W1.heap.size lv (tr X).1 ∧ Below W1.heap.size W1 w') := relems_any X W1 hX
  have hEl : ∀ W', Hid (Calls Try.prog 9 #[.string X] W' fun r w' => r = .returned (.func (.func 29) #[] #[.pointer (some ⟨W'.heap.size, 0, none⟩)]) ∧ w' = W'.alloc (.cells #[.string X] 9)) := fun W' => elems_any X W'
  refine (callsIn_wide (n := 7)).1 ?_
  refine callsIn_of_wp_marks Try.func3 rfl trivial ?_ rfl
  simp only [Try.ntmps3, List.size_toArray, List.length_cons, List.length_nil, Nat.reduceAdd, Nat.reduceSub, Array.replicate_succ, Array.replicate_zero, List.push_toArray, List.append_toArray, List.nil_append, List.cons_append]
  gi_wp2_with fail
  try rw [hW1]
  refine ⟨trivial, (callsIn_wide.2 HR.out).mono ?_⟩
  rintro e w2 ⟨lv, rfl, hlv, hb2⟩
  obtain ⟨la, lc, rfl, hrow⟩ := ownP_any hlv
  obtain ⟨N, hN⟩ : ∃ N, (tr X).1.length = N := ⟨_, rfl⟩
  rw [hN]
  have hN64 : N ≤ 2147483650 := by have := (tr_len X).1; omega
  have HB2 : Hid (Below w.heap.size w w2) := hB1.trans (hb2.mono hB1.size)
  have bS2 : Boxed w2 w.heap.size 3 (.int .i64 stop) := (hb2.block _ bS1.lt).trans bS1
  have bR2 : Boxed w2 (w.heap.size + 1) 4 (.bool false) := (hb2.block _ bR1.lt).trans bR1
  have hN1 : Hid (Boxed w2 w.heap.size 3 (.int .i64 stop) ∧ Boxed w2 (w.heap.size + 1) 4 (.bool false) ∧ w.heap.size + 1 < w2.heap.size) := ⟨bS2, bR2, bR2.lt⟩
  have hnil := nil_seq #[.pointer (some ⟨w2.heap.size + 1, 0, none⟩)]
  clear HR hW1 hB1 bS1 bR1 bS2 bR2 hb2 hlv
  obtain ⟨W3, hW3⟩ : ∃ W3, ((w2.alloc (.cells #[.slice la N lc] 22)).alloc (.cells #[.string X] 9)).alloc (.cells #[.func (.func 29) #[] #[.pointer (some ⟨w2.heap.size + 1, 0, none⟩)]] 25) = W3 := ⟨_, rfl⟩
  have hst : (store ⟨w2.heap.size + 1 + 1, 0, none⟩ (.func (.func 29) #[] #[.pointer (some ⟨w2.heap.size + 1, 0, none⟩)])).run Try.prog (((w2.alloc (.cells #[.slice la N lc] 22)).alloc (.cells #[.string X] 9)).alloc (.cells #[.nilFunc] 25)) = .ok () W3 := by
    rw [run_store Try.prog _ _ _ _ rfl, ← hW3]
    simp [go_sem]
  have hs3 : W3.heap.size = w2.heap.size + 3 := by rw [← hW3]; simp
  have hb3 : Below w2.heap.size w2 W3 := by rw [← hW3]; exact (((Below.refl _ _).alloc (Nat.le_refl _) _).alloc (by simp) _).alloc (by simp; omega) _
  have k1 : Boxed W3 w2.heap.size 22 (.slice la N lc) := by rw [← hW3]; exact ((Boxed.new w2 _ _).alloc _).alloc _
  have k2 : Boxed W3 (w2.heap.size + 1) 9 (.string X) := by
    rw [← hW3]
    have := Boxed.new (w2.alloc (.cells #[.slice la N lc] 22)) 9 (.string X)
    rw [World.size_alloc] at this
    exact this.alloc _
  have k3 : Boxed W3 (w2.heap.size + 2) 25 (.func (.func 29) #[] #[.pointer (some ⟨w2.heap.size + 1, 0, none⟩)]) := by
    rw [← hW3]
    have := Boxed.new ((w2.alloc (.cells #[.slice la N lc] 22)).alloc (.cells #[.string X] 9)) 25 (.func (.func 29) #[] #[.pointer (some ⟨w2.heap.size + 1, 0, none⟩)])
    rwa [World.size_alloc, World.size_alloc] at this
  have k3c := k3.cell
  have k4c := (k3.alloc (.cells #[.int .i64 0] 3)).cell
  have hkk : Hid (Boxed W3 w2.heap.size 22 (.slice la N lc) ∧ Boxed W3 (w2.heap.size + 1) 9 (.string X) ∧ Boxed W3 (w2.heap.size + 2) 25 (.func (.func 29) #[] #[.pointer (some ⟨w2.heap.size + 1, 0, none⟩)]) ∧ Below w2.heap.size w2 W3) := ⟨k1, k2, k3, hb3⟩
  clear k1 k2 k3 hb3
  gi_wp2_with (refine ⟨trivial, ?_⟩; gi_at_call 9; refine (callsIn_wide.2 (hEl _).out).mono ?_; rintro r w5 ⟨rfl, rfl⟩)
  obtain ⟨k1, k2, k3, hb3⟩ := hkk.out
  clear hkk k3c k4c hst hnil
  obtain ⟨W4, hW4⟩ : ∃ W4, W3.alloc (.cells #[.int .i64 0] 3) = W4 := ⟨_, rfl⟩
  have hs4 : W4.heap.size = w2.heap.size + 4 := by rw [← hW4]; simp; omega
  have hI0 : I1 w2 la N lc X [] W4 := by
    rw [← hW4]
    refine ⟨⟨hb3.alloc (by omega) _, k1.alloc _, k2.alloc _, k3.alloc _, by simp; omega⟩, ?_⟩
    have := Boxed.new W3 3 (.int .i64 0)
    rw [hs3] at this
    exact this
  rw [hW4]
  refine wpIn_act (fun a0 ha0 => ?_)
  have hX48 : X.size ≤ 281474976710656 := by omega
  have hsb4 : W4.heap[w2.heap.size + 1]? = some (.cells #[.string X] 9 (0, 0)) := hI0.1.2.2.1
  refine range_l (by decide) (gf := 29) (lb := #[.pointer (some ⟨w2.heap.size + 1, 0, none⟩)]) (by rw [ha0]; rfl) (enters_of Try.func29 (by kernel_rfl) rfl)
    (elems1_any 6 (by decide) X hX48 (w2.heap.size + 1) W4 hsb4) (fun h h' => KV.trans h h') (fun W l o o' _ hl ho _ => kv_put W l o o' hl ho) (Below.refl _ _) (fun _ => rfl)
    (I1 w2 la N lc X) (X1 w2 la N lc X stop) (by rw [hs4]; exact i1_low) (fun c => by rw [hs4]; exact x1_low c) hI0
    (fun x a' U => ∃ Hx, w2.heap.size + 4 ≤ Hx ∧ U.heap[Hx]? = some (hdO x.2.1) ∧ a' = { tmps := (((a0.tmps.setIfInBounds 22 (.int .i64 (x.1 : Int))).setIfInBounds 23 (.agg #[.int .i64 (x.2.1.cls : Int), .bool x.2.1.made, .int .i64 (x.2.1.tag : Int), .int .i64 (x.2.1.len : Int), .int .i64 (x.2.1.size : Int)])).setIfInBounds 8 (.int .i64 (x.1 : Int))).setIfInBounds 9 (.pointer (some ⟨Hx, 0, none⟩)), defers := [] })
    ?hAx ?assign ?body ?done ?stop
  case hAx =>
    rintro x a' _ U U' row ⟨Hx, q1, q2, q4⟩ hg hr
    refine ⟨Hx, q1, (hg.block Hx (Array.getElem?_eq_some_iff.1 q2).1 (fun e => ?_)).trans q2, q4⟩
    obtain ⟨_, o, ho, hc⟩ := hr Hx e.symm
    rw [q2] at ho
    injection ho with ho
    subst ho
    cases hc
  case assign =>
    rintro l' pre ⟨p, h, d⟩ U K hi hp hK
    have hWs := hi.1.2.2.2.2
    have hK' := hK _ (U.alloc (.cells #[.int .i64 (h.cls : Int), .bool h.made, .int .i64 (h.tag : Int), .int .i64 (h.len : Int), .int .i64 (h.size : Int)] 29)) ((KeepsOthers.alloc U _).from _) (KV.of_below ((Below.refl _ _).alloc (Nat.le_refl _) _)) (i1_low _ _ _ hi ((Below.refl _ _).alloc hWs _)) ⟨U.heap.size, hWs, World.alloc_heap_new U _, rfl⟩
    rw [ha0] at hK' ⊢
    simp only [List.setIfInBounds_toArray, List.set_cons_succ, List.set_cons_zero] at hK'
    clear hK hi hp
    gi_wp2
    exact hK'
  case body =>
    rintro l' pre ⟨p, h, d⟩ a' U hl hlr hI ⟨Hx, hHx, hx, rfl⟩ hpx
    obtain ⟨hC, hn⟩ := hI
    obtain ⟨hmN, b, rfl, p0, p1, p2, p3, p4, p5⟩ := place_at hrow hN hpx hC
    obtain ⟨y0, y1, y2, y3, y4⟩ := hd_cells hx
    dsimp only at p0 p1 p2 p3 p4 p5 y0 y1 y2 y3 y4
    rw [ha0]
    simp only [List.setIfInBounds_toArray, List.set_cons_succ, List.set_cons_zero]
    obtain ⟨m, hm⟩ : ∃ m, pre.length = m := ⟨_, rfl⟩
    rw [hm] at hmN hn p0 p1 p2 p3 p4 p5
    have m0 : (0 : Int) ≤ (m : Int) := Int.natCast_nonneg _
    have m1 : (m : Int) < (N : Int) := Int.ofNat_lt.2 hmN
    have m2 : ¬ (m : Int) ≥ (N : Int) := by omega
    have m3 : decide (N ≤ m) = false := decide_eq_false (by omega)
    have n1 := hn.cell
    have c1 := hC.2.1.cell
    have hne := fun W => ne_hdr (h.cls : Int) h.made (h.tag : Int) (h.len : Int) (h.size : Int) W
    gi_wp2_with fail
    refine region_quiet (by kernel_rfl) (by kernel_rfl) (by kernel_rfl) (by rintro ⟨_, _, h⟩; exact h) ?_
    repeat (go_big_quiet_step (fail))
    refine wpQuiet_nil ?_
    rintro _ ⟨nq, rfl⟩
    obtain ⟨U', hU'⟩ : ∃ U', U.drewN nq = U' := ⟨_, rfl⟩
    rw [hU']
    have hbd : Below U.heap.size U U' := by rw [← hU']; exact below_drewN _ _ _
    have hC' : CX w2 (some ⟨b, 0, none⟩) N lc X U' := hC.low hbd (by have := hC.2.2.2.2; omega)
    have hn' : Boxed U' (w2.heap.size + 3) 3 (.int .i64 (m : Int)) := (hbd.block _ hn.lt).trans hn
    obtain ⟨mm, hmm⟩ : ∃ mm, mm = m + 1 := ⟨_, rfl⟩
    obtain ⟨U2, hU2⟩ : ∃ U2, U'.setCell ⟨w2.heap.size + 3, 0, none⟩ (.int .i64 (mm : Int)) = U2 := ⟨_, rfl⟩
    have hI2 : I1 w2 (some ⟨b, 0, none⟩) N lc X (pre ++ [(p, h, d)]) U2 := by
      rw [← hU2]
      refine ⟨hC'.set (Nat.le_refl _) _, ?_⟩
      rw [List.length_append, hm, show m + [(p, h, d)].length = mm from hmm.symm]
      exact hn'.set _
    have kf2 : KeepsFrom (w2.heap.size + 4) U U2 := by rw [← hU2]; exact ⟨by rw [World.size_setCell]; exact hbd.size, fun k o hk q1 q2 => (KeepsOthers.setCell _ _ _).same _ _ ((hbd.block _ (Array.getElem?_eq_some_iff.1 q1).1).trans q1) q2⟩
    have kv2 : KV U U2 := by rw [← hU2]; exact (KV.of_below hbd).trans (kv_set hn')
    have hsB : Boxed U2 w.heap.size 3 (.int .i64 stop) := (hI2.1.1.block _ (by have := hN1.out.2.2; omega)).trans hN1.out.1
    have wm : Hid (wrap64 ((m : Int) + 1) = (mm : Int)) := by unfold Hid; rw [hmm]; exact wp_one m (by omega)
    have n1 := hn'.cell
    have n1f := hn'.frozen
    have n2c : U2.cell? ⟨w2.heap.size + 3, 0, none⟩ = some (.int .i64 (mm : Int)) := by rw [← hU2]; exact (hn'.set _).cell
    have s2c := hsB.cell
    have hex : Hid ((mm : Int) = stop → X1 w2 (some ⟨b, 0, none⟩) N lc X stop (.exit 0) (pre ++ [(p, h, d)]) U2) := fun e => ⟨rfl, hI2, by rw [List.length_append, hm, show m + [(p, h, d)].length = mm from hmm.symm]; exact e⟩
    have hkk : Hid (KeepsFrom (w2.heap.size + 4) U U2 ∧ KV U U2 ∧ I1 w2 (some ⟨b, 0, none⟩) N lc X (pre ++ [(p, h, d)]) U2) := ⟨kf2, kv2, hI2⟩
    have wm' := wm.out
    clear hC hn hC' hn' hbd hx hpx hI0 hsB hI2 kf2 kv2 p0 p1 p2 p3 p4 p5 y0 y1 y2 y3 y4 c1 wm hmm m2 m3 m0 m1 hmN hne hrow
    by_cases hst : (mm : Int) = stop
    · have hx1 : Hid (KeepsFrom (w2.heap.size + 4) U U2 ∧ KV U U2 ∧ X1 w2 (some ⟨b, 0, none⟩) N lc X stop (.exit 0) (pre ++ [(p, h, d)]) U2) := ⟨hkk.out.1, hkk.out.2.1, hex.out hst⟩
      have hsb : ((mm : Int) == stop) = true := by rw [hst]; simp
      clear hex hst
      gi_wp2_with fail
      first | exact hx1.out | (rw [hs4]; exact hx1.out)
    · have hsb : ((mm : Int) == stop) = false := by simpa using hst
      clear hex
      gi_wp2_with fail
      first | exact hkk.out | (rw [hs4]; exact hkk.out)
  case' done =>
    rintro D1 V hD1 hI hK1
    obtain ⟨hC, hn⟩ := hI
    rw [hN] at hn
    have hk : (N : Int) = (N : Int) ∨ (N : Int) = stop := Or.inl rfl
    obtain ⟨k, hkd⟩ : ∃ k, N = k := ⟨_, rfl⟩
    have hn1 : Boxed V (w2.heap.size + 3) 3 (.int .i64 (k : Int)) := by rw [← hkd]; exact hn
    have hnb : ((k : Int) != (N : Int)) = false := by rw [hkd]; simp
    clear hn hk
  case' stop =>
    rintro D1 c pre V hD1 hp hX hK1
    obtain ⟨rfl, ⟨hC, hn⟩, hks⟩ := hX
    obtain ⟨k, hkd⟩ : ∃ k, pre.length = k := ⟨_, rfl⟩
    rw [hkd] at hn hks
    have hn1 : Boxed V (w2.heap.size + 3) 3 (.int .i64 (k : Int)) := hn
    have hnb : ((k : Int) != stop) = false := by rw [hks]; simp
    clear hn hp hks
    by_cases hkN : (k : Int) = (N : Int)
    case' pos =>
      have hnc : ((k : Int) != (N : Int)) = false := by rw [hkN]; simp
      clear hkN
    case' neg => have hnc : ((k : Int) != (N : Int)) = true := by simpa using hkN
  all_goals
    have hC0 : Hid (CX w2 la N lc X V) := hC
    have c1 := hC.2.1.cell
    have c3 := hC.2.2.2.1.cell
    have n1c := hn1.cell
    have n1f := hn1.frozen
    have hsB : Boxed V w.heap.size 3 (.int .i64 stop) := (hC.1.block _ (by have := hN1.out.2.2; omega)).trans hN1.out.1
    have s1c := hsB.cell
    obtain ⟨V', hV'⟩ : ∃ V', V.setCell ⟨w2.heap.size + 3, 0, none⟩ (.int .i64 0) = V' := ⟨_, rfl⟩
    have hC1 : CX w2 la N lc X V' := by rw [← hV']; exact hC.set (Nat.le_refl _) _
    have hn0 : Boxed V' (w2.heap.size + 3) 3 (.int .i64 0) := by rw [← hV']; exact hn1.set _
    have c3' := hC1.2.2.2.1.cell
    have hK1' : V'.heap[D1]? = some (.deferred (some [])) := by rw [← hV']; exact (Below.heap_setCell _ _ _ _ (by show D1 ≠ w2.heap.size + 3; omega)).trans hK1
    have hD1V : Hid (D1 < V'.heap.size ∧ w2.heap.size + 4 ≤ D1) := ⟨(Array.getElem?_eq_some_iff.1 hK1').1, by omega⟩
    have hI20 : Hid (CX w2 la N lc X V' ∧ Boxed V' (w2.heap.size + 3) 3 (.int .i64 0) ∧ V'.heap[D1]? = some (.deferred (some []))) := ⟨hC1, hn0, hK1'⟩
    rw [ha0]
    clear hC hn1 hsB hC1 hn0 hK1 hK1' hI0
    gi_wp2_with fail
    try rw [hV']
    clear hV' c1 c3 n1c n1f s1c c3' hnb hkd
    refine wpIn_act (fun a2 ha2 => ?_)
    have hsb5 : V'.heap[w2.heap.size + 1]? = some (.cells #[.string X] 9 (0, 0)) := hI20.out.1.2.2.1
    have hV4 : w2.heap.size + 4 ≤ V'.heap.size := hI20.out.1.2.2.2.2
    refine range_l (by decide) (gf := 29) (lb := #[.pointer (some ⟨w2.heap.size + 1, 0, none⟩)]) (by rw [ha2]; rfl) (enters_of Try.func29 (by kernel_rfl) rfl)
      (elems1_any 6 (by decide) X hX48 (w2.heap.size + 1) V' hsb5) (fun h h' => KV.trans h h') (fun W l o o' _ hl ho _ => kv_put W l o o' hl ho) (Below.refl _ _) (fun _ => rfl)
      (I2 w2 la N lc X D1) (fun _ _ _ => False) (i2_low hD1V.out.1 hV4) (fun _ _ _ _ h _ => h) hI20.out
      (fun x a' U => ∃ Hx, w2.heap.size + 4 ≤ Hx ∧ U.heap[Hx]? = some (hdO x.2.1) ∧ a' = { tmps := (((a2.tmps.setIfInBounds 61 (.int .i64 (x.1 : Int))).setIfInBounds 62 (.agg #[.int .i64 (x.2.1.cls : Int), .bool x.2.1.made, .int .i64 (x.2.1.tag : Int), .int .i64 (x.2.1.len : Int), .int .i64 (x.2.1.size : Int)])).setIfInBounds 10 (.int .i64 (x.1 : Int))).setIfInBounds 11 (.pointer (some ⟨Hx, 0, none⟩)), defers := [] })
      ?hAx2 ?assign2 ?body ?done2 ?stop2
    case hAx2 =>
      rintro x a' _ U U' row ⟨Hx, q1, q2, q4⟩ hg hr
      refine ⟨Hx, q1, (hg.block Hx (Array.getElem?_eq_some_iff.1 q2).1 (fun e => ?_)).trans q2, q4⟩
      obtain ⟨_, o, ho, hc⟩ := hr Hx e.symm
      rw [q2] at ho
      injection ho with ho
      subst ho
      cases hc
    case assign2 =>
      rintro l' pre ⟨p, h, d⟩ U K hi hp hK
      have hWs : V'.heap.size ≤ U.heap.size ∨ True := Or.inr trivial
      have hDU := (Array.getElem?_eq_some_iff.1 hi.2.2).1
      have h4U := hi.1.2.2.2.2
      have hK' := hK _ (U.alloc (.cells #[.int .i64 (h.cls : Int), .bool h.made, .int .i64 (h.tag : Int), .int .i64 (h.len : Int), .int .i64 (h.size : Int)] 29)) ((KeepsOthers.alloc U _).from _) (KV.of_below ((Below.refl _ _).alloc (Nat.le_refl _) _)) (i2_low (b := U.heap.size) hDU h4U _ _ _ hi ((Below.refl _ _).alloc (Nat.le_refl _) _)) ⟨U.heap.size, h4U, World.alloc_heap_new U _, rfl⟩
      rw [ha2] at hK' ⊢
      simp only [List.setIfInBounds_toArray, List.set_cons_succ, List.set_cons_zero] at hK'
      clear hK hi hp
      gi_wp2
      exact hK'
    case body =>
      rintro l' pre ⟨p, h, d⟩ a' U hl ⟨rl, hlr⟩ hI ⟨Hx, hHx, hx, rfl⟩ hpx
      obtain ⟨hC, hn, hDU⟩ := hI
      obtain ⟨hmN, b, rfl, p0, p1, p2, p3, p4, p5⟩ := place_at hrow hN hpx hC
      obtain ⟨y0, y1, y2, y3, y4⟩ := hd_cells hx
      dsimp only at p0 p1 p2 p3 p4 p5 y0 y1 y2 y3 y4
      rw [ha2]
      simp only [List.setIfInBounds_toArray, List.set_cons_succ, List.set_cons_zero]
      obtain ⟨m, hm⟩ : ∃ m, pre.length = m := ⟨_, rfl⟩
      rw [hm] at hmN hn p0 p1 p2 p3 p4 p5
      have m0 : (0 : Int) ≤ (m : Int) := Int.natCast_nonneg _
      have m1 : (m : Int) < (N : Int) := Int.ofNat_lt.2 hmN
      have m2 : ¬ (m : Int) ≥ (N : Int) := by omega
      have m3 : decide (N ≤ m) = false := decide_eq_false (by omega)
      have n1 := hn.cell
      have c1 := hC.2.1.cell
      have hne := fun W => ne_hdr (h.cls : Int) h.made (h.tag : Int) (h.len : Int) (h.size : Int) W
      gi_wp2_with fail
      refine region_quiet (by kernel_rfl) (by kernel_rfl) (by kernel_rfl) (by rintro ⟨_, _, h⟩; exact h) ?_
      repeat (go_big_quiet_step (fail))
      refine wpQuiet_nil ?_
      rintro _ ⟨nq, rfl⟩
      obtain ⟨U', hU'⟩ : ∃ U', U.drewN nq = U' := ⟨_, rfl⟩
      rw [hU']
      have hbd : Below U.heap.size U U' := by rw [← hU']; exact below_drewN _ _ _
      have hC' : CX w2 (some ⟨b, 0, none⟩) N lc X U' := hC.low hbd (by have := hC.2.2.2.2; omega)
      have hn' : Boxed U' (w2.heap.size + 3) 3 (.int .i64 (m : Int)) := (hbd.block _ hn.lt).trans hn
      obtain ⟨mm, hmm⟩ : ∃ mm, mm = m + 1 := ⟨_, rfl⟩
      obtain ⟨U2, hU2⟩ : ∃ U2, U'.setCell ⟨w2.heap.size + 3, 0, none⟩ (.int .i64 (mm : Int)) = U2 := ⟨_, rfl⟩
      have hI2 : I2 w2 (some ⟨b, 0, none⟩) N lc X D1 (pre ++ [(p, h, d)]) U2 := by
        rw [← hU2]
        refine ⟨hC'.set (Nat.le_refl _) _, ?_, (Below.heap_setCell _ _ _ _ (by show D1 ≠ w2.heap.size + 3; have := hD1V.out.2; omega)).trans ((hbd.block _ (Array.getElem?_eq_some_iff.1 hDU).1).trans hDU)⟩
        rw [List.length_append, hm, show m + [(p, h, d)].length = mm from hmm.symm]
        exact hn'.set _
      have kf2 : KeepsFrom V'.heap.size U U2 := by rw [← hU2]; exact ⟨by rw [World.size_setCell]; exact hbd.size, fun k o hk q1 q2 => (KeepsOthers.setCell _ _ _).same _ _ ((hbd.block _ (Array.getElem?_eq_some_iff.1 q1).1).trans q1) q2⟩
      have kv2 : KV U U2 := by rw [← hU2]; exact (KV.of_below hbd).trans (kv_set hn')
      have hsB : Boxed U2 w.heap.size 3 (.int .i64 stop) := (hI2.1.1.block _ (by have := hN1.out.2.2; omega)).trans hN1.out.1
      have wm : Hid (wrap64 ((m : Int) + 1) = (mm : Int)) := by unfold Hid; rw [hmm]; exact wp_one m (by omega)
      have n1 := hn'.cell
      have n1f := hn'.frozen
      have n2c : U2.cell? ⟨w2.heap.size + 3, 0, none⟩ = some (.int .i64 (mm : Int)) := by rw [← hU2]; exact (hn'.set _).cell
      have s2c := hsB.cell
      have hkk : Hid (KeepsFrom V'.heap.size U U2 ∧ KV U U2 ∧ I2 w2 (some ⟨b, 0, none⟩) N lc X D1 (pre ++ [(p, h, d)]) U2) := ⟨kf2, kv2, hI2⟩
      have wm' := wm.out
      have q3c := hI2.1.2.2.2.1.cell
      have hl2 : U2.heap[l']? = some (.loop rl) := by rw [← hU2]; exact (Below.heap_setCell _ _ _ _ (by show l' ≠ w2.heap.size + 3; have := hD1V.out; omega)).trans ((hbd.block _ (Array.getElem?_eq_some_iff.1 hlr).1).trans hlr)
      have hY3 := (hI2.1.2.2.2.1.alloc (.cells #[.int .i64 0] 3)).cell
      have hUV : Hid (U.heap.size ≤ U2.heap.size) := kv2.1
      clear hC hn hC' hn' hbd hx hpx hsB hI2 kf2 kv2 p0 p1 p2 p3 p4 p5 y0 y1 y2 y3 y4 c1 wm m2 m3 m0 m1 hmN hne hlr hDU
      have hmmx : Hid (pre.length + 1 = mm) := by unfold Hid; omega
      clear hmm
      by_cases t1 : (mm : Int) = 1
      case' pos =>
        have tb : ((mm : Int) != 1) = false := by rw [t1]; simp
        clear t1
      case' neg =>
        have tb : ((mm : Int) != 1) = true := by simpa using t1
        by_cases t2 : (mm : Int) = stop
        case' pos =>
          have tc : ((mm : Int) != stop) = false := by rw [t2]; simp
          clear t2
        case' neg =>
          have tc : ((mm : Int) != stop) = true := by simpa using t2
          clear hrow
          gi_wp2_with fail
          exact hkk.out
      all_goals
        gi_wp2_with fail
        obtain ⟨Y, hY⟩ : ∃ Y, U2.alloc (.cells #[.int .i64 0] 3) = Y := ⟨_, rfl⟩
        have hsY : Y.heap.size = U2.heap.size + 1 := by rw [← hY]; simp
        have hbY : Below U2.heap.size U2 Y := by rw [← hY]; exact (Below.refl _ _).alloc (Nat.le_refl _) _
        have hgY : Boxed Y U2.heap.size 3 (.int .i64 0) := by rw [← hY]; exact Boxed.new U2 _ _
        have hlY : Y.heap[l']? = some (.loop rl) := (hbY.block _ (Array.getElem?_eq_some_iff.1 hl2).1).trans hl2
        have hDU2 : D1 < U2.heap.size := (Array.getElem?_eq_some_iff.1 hkk.out.2.2.2.2).1
        have h4U2 : w2.heap.size + 4 ≤ U2.heap.size := hkk.out.2.2.1.2.2.2.2
        have hI30 : I3 w2 (some ⟨b, 0, none⟩) N lc X D1 mm U2.heap.size V'.heap.size U [] Y := by
          obtain ⟨q1, q2, q3, q4, q5⟩ := hkk.out
          refine ⟨q3.low hbY (by omega), ?_, hgY, (hbY.block _ hDU2).trans q5, q2.trans (KV.of_below hbY), ⟨Nat.le_trans q1.size hbY.size, fun k o hk r1 r2 => (hbY.block _ (Array.getElem?_eq_some_iff.1 (q1.same k o hk r1 r2)).1).trans (q1.same k o hk r1 r2)⟩⟩
          rw [List.length_append] at q4
          have e : pre.length + [(p, h, d)].length = mm := hmmx.out
          rw [e] at q4
          exact (hbY.block _ q4.lt).trans q4
        have hsbY : Y.heap[w2.heap.size + 1]? = some (.cells #[.string X] 9 (0, 0)) := hI30.1.2.2.1
        rw [hY]
        refine wpIn_act (fun a3 ha3 => ?_)
        rw [wm'] at ha3
        clear wm'
        refine range_n (l₀ := l') (r₀ := rl) hlY (by decide) (gf := 29) (lb := #[.pointer (some ⟨w2.heap.size + 1, 0, none⟩)]) (by rw [ha3]; rfl) (enters_of Try.func29 (by kernel_rfl) rfl)
          (elems1_any 4 (by decide) X hX48 (w2.heap.size + 1) Y hsbY) (fun h h' => KV.trans h h') (fun W l o o' _ hl ho _ => kv_put W l o o' hl ho) (Below.refl _ _) (fun _ => rfl)
          (I3 w2 (some ⟨b, 0, none⟩) N lc X D1 mm U2.heap.size V'.heap.size U) (fun _ _ _ => False) (i3_low (by omega) (by omega) (by omega) (by have := hUV.out; omega)) (fun _ _ _ _ h _ => h) hI30
          (fun x a' Z => ∃ Hx, U2.heap.size + 1 ≤ Hx ∧ Z.heap[Hx]? = some (hdO x.2.1) ∧ a' = { tmps := (((a3.tmps.setIfInBounds 95 (.int .i64 (x.1 : Int))).setIfInBounds 96 (.agg #[.int .i64 (x.2.1.cls : Int), .bool x.2.1.made, .int .i64 (x.2.1.tag : Int), .int .i64 (x.2.1.len : Int), .int .i64 (x.2.1.size : Int)])).setIfInBounds 13 (.int .i64 (x.1 : Int))).setIfInBounds 14 (.pointer (some ⟨Hx, 0, none⟩)), defers := [] })
          ?hAx3 ?assign3 ?body3 ?done3 ?stop3
        case hAx3 =>
          rintro x a' _ Z Z' row ⟨Hy, q1, q2, q4⟩ hg hr
          refine ⟨Hy, q1, (hg.block Hy (Array.getElem?_eq_some_iff.1 q2).1 (fun e => ?_)).trans q2, q4⟩
          obtain ⟨_, o, ho, hc⟩ := hr Hy e.symm
          rw [q2] at ho
          injection ho with ho
          subst ho
          cases hc
        case assign3 =>
          rintro l'' pre' ⟨p', h', d'⟩ Z K hi hp hK
          have hWs : Y.heap.size ≤ Z.heap.size := by have := hi.2.2.1.lt; omega
          have hK' := hK _ (Z.alloc (.cells #[.int .i64 (h'.cls : Int), .bool h'.made, .int .i64 (h'.tag : Int), .int .i64 (h'.len : Int), .int .i64 (h'.size : Int)] 29)) ((KeepsOthers.alloc Z _).from _) (KV.of_below ((Below.refl _ _).alloc (Nat.le_refl _) _)) (i3_low (b := Y.heap.size) (by omega) (by omega) (by omega) (by have := hUV.out; omega) _ _ _ hi ((Below.refl _ _).alloc hWs _)) ⟨Z.heap.size, by omega, World.alloc_heap_new Z _, rfl⟩
          rw [ha3] at hK' ⊢
          simp only [List.setIfInBounds_toArray, List.set_cons_succ, List.set_cons_zero] at hK'
          clear hK hi hp
          gi_wp2
          first
          | exact hK'
          | simpa using hK'
        case body3 =>
          rintro l'' pre' ⟨p', h', d'⟩ a' Z hl3 hlr3 hI ⟨Hy, hHy, hy, rfl⟩ hpx'
          obtain ⟨hC, hn, hg, hD, hkv, hkf⟩ := hI
          obtain ⟨hmN, b', hb', p0, p1, p2, p3, p4, p5⟩ := place_at hrow hN hpx' hC
          obtain rfl : b = b' := congrArg Addr.block (Option.some.inj hb')
          obtain ⟨y0, y1, y2, y3, y4⟩ := hd_cells hy
          dsimp only at p0 p1 p2 p3 p4 p5 y0 y1 y2 y3 y4
          rw [ha3]
          simp only [List.setIfInBounds_toArray, List.set_cons_succ, List.set_cons_zero]
          obtain ⟨m3, hm3⟩ : ∃ m, pre'.length = m := ⟨_, rfl⟩
          rw [hm3] at hmN hg p0 p1 p2 p3 p4 p5
          have m0 : (0 : Int) ≤ (m3 : Int) := Int.natCast_nonneg _
          have m1 : (m3 : Int) < (N : Int) := Int.ofNat_lt.2 hmN
          have m2 : ¬ (m3 : Int) ≥ (N : Int) := by omega
          have mx : decide (N ≤ m3) = false := decide_eq_false (by omega)
          have g1 := hg.cell
          have c1 := hC.2.1.cell
          have hne := fun W => ne_hdr (h'.cls : Int) h'.made (h'.tag : Int) (h'.len : Int) (h'.size : Int) W
          have wm3 : Hid (wrap64 ((m3 : Int) + 1) = ((m3 + 1 : Nat) : Int)) := wp_one m3 (by omega)
          clear n1 n1f n2c s2c q3c hY3 tb hI30 hsbY
          gi_wp2_with fail
          refine region_quiet (by kernel_rfl) (by kernel_rfl) (by kernel_rfl) (by rintro ⟨_, _, h⟩; exact h) ?_
          repeat (go_big_quiet_step (fail))
          refine wpQuiet_nil ?_
          rintro _ ⟨nq, rfl⟩
          obtain ⟨Z', hZ'⟩ : ∃ Z', Z.drewN nq = Z' := ⟨_, rfl⟩
          rw [hZ']
          have hbd : Below Z.heap.size Z Z' := by rw [← hZ']; exact below_drewN _ _ _
          have hC' : CX w2 (some ⟨b, 0, none⟩) N lc X Z' := hC.low hbd (by have := hC.2.2.2.2; omega)
          have hn' : Boxed Z' (w2.heap.size + 3) 3 (.int .i64 (mm : Int)) := (hbd.block _ hn.lt).trans hn
          have hg' : Boxed Z' U2.heap.size 3 (.int .i64 (m3 : Int)) := (hbd.block _ hg.lt).trans hg
          have hD' : Z'.heap[D1]? = some (.deferred (some [])) := (hbd.block _ (Array.getElem?_eq_some_iff.1 hD).1).trans hD
          obtain ⟨mq, hmq⟩ : ∃ mq, mq = m3 + 1 := ⟨_, rfl⟩
          rw [← hmq] at wm3
          obtain ⟨Z2, hZ2⟩ : ∃ Z2, Z'.setCell ⟨U2.heap.size, 0, none⟩ (.int .i64 (mq : Int)) = Z2 := ⟨_, rfl⟩
          have kf2 : KeepsFrom Y.heap.size Z Z2 := by rw [← hZ2]; exact ⟨by rw [World.size_setCell]; exact hbd.size, fun k o hk q1 q2 => (KeepsOthers.setCell _ _ _).same _ _ ((hbd.block _ (Array.getElem?_eq_some_iff.1 q1).1).trans q1) q2⟩
          have kf3 : KeepsFrom V'.heap.size Z Z2 := by rw [← hZ2]; exact ⟨by rw [World.size_setCell]; exact hbd.size, fun k o hk q1 q2 => (KeepsOthers.setCell _ _ _).same _ _ ((hbd.block _ (Array.getElem?_eq_some_iff.1 q1).1).trans q1) q2⟩
          have kv2 : KV Z Z2 := by rw [← hZ2]; exact (KV.of_below hbd).trans (kv_set hg')
          have hkk3 : Hid (KeepsFrom Y.heap.size Z Z2 ∧ KV Z Z2 ∧ I3 w2 (some ⟨b, 0, none⟩) N lc X D1 mm U2.heap.size V'.heap.size U (pre' ++ [(p', h', d')]) Z2) := by
            refine ⟨kf2, kv2, ?_, ?_, ?_, ?_, hkv.trans kv2, hkf.trans kf3⟩
            · rw [← hZ2]; exact hC'.set (by omega) _
            · rw [← hZ2]; exact (Below.heap_setCell _ _ _ _ (by show w2.heap.size + 3 ≠ U2.heap.size; omega)).trans hn'
            · rw [← hZ2, List.length_append, hm3, show m3 + [(p', h', d')].length = mq from hmq.symm]; exact hg'.set _
            · rw [← hZ2]; exact (Below.heap_setCell _ _ _ _ (by show D1 ≠ U2.heap.size; omega)).trans hD'
          have g1 := hg'.cell
          have g1f := hg'.frozen
          have wm4 := wm3.out
          clear hC hn hg hD hkv hkf hC' hn' hg' hD' hbd hy hpx' kf2 kf3 kv2 p0 p1 p2 p3 p4 p5 y0 y1 y2 y3 y4 c1 wm3 m2 mx m0 m1 hmN hne hmq hrow
          gi_wp2_with fail
          exact hkk3.out
        case done3 =>
          rintro Z hI
          obtain ⟨hC, hn, hg, hD, hkv, hkf⟩ := hI
          rw [hN] at hg
          have g1 := hg.cell
          have c1 := hC.2.1.cell
          have hfin : Hid (KeepsFrom V'.heap.size U Z ∧ KV U Z ∧ I2 w2 (some ⟨b, 0, none⟩) N lc X D1 (pre ++ [(p, h, d)]) Z) := by
            refine ⟨hkf, hkv, hC, ?_, hD⟩
            rw [List.length_append, show pre.length + [(p, h, d)].length = mm from hmmx.out]
            exact hn
          rw [ha3]
          clear hC hn hg hD hkv hkf n1 n1f n2c s2c q3c hY3 tb hI30 hsbY hrow
          gi_wp2_with fail
          exact hfin.out
        case stop3 =>
          rintro c' pre' Z hp hX
          exact hX.elim
    case done2 =>
      rintro D2 Z hD2 hI hK2
      obtain ⟨hC, hn, hD⟩ := hI
      rw [hN] at hn
      have n1 := hn.cell
      have c1 := hC.2.1.cell
      have hw2 := hN1.out.2.2
      have hRb : Boxed Z (w.heap.size + 1) 4 (.bool false) := (hC.1.block _ hw2).trans hN1.out.2.1
      have r1 := hRb.cell
      have r1f := hRb.frozen
      have hd1 := hD1V.out
      have hK3 : (Z.setCell ⟨w.heap.size + 1, 0, none⟩ (.bool true)).heap[D2]? = some (.deferred (some [])) := (Below.heap_setCell _ _ _ _ (by show D2 ≠ w.heap.size + 1; omega)).trans hK2
      have hK4 : ((Z.setCell ⟨w.heap.size + 1, 0, none⟩ (.bool true)).putObj D2 (.deferred none)).heap[D1]? = some (.deferred (some [])) := (World.putObj_heap_other (by omega)).trans ((Below.heap_setCell _ _ _ _ (by show D1 ≠ w.heap.size + 1; omega)).trans hD)
      have hb : Hid (Below w.heap.size w (((Z.setCell ⟨w.heap.size + 1, 0, none⟩ (.bool true)).putObj D2 (.deferred none)).putObj D1 (.deferred none))) := ((((HB2.out.trans (hC.1.mono HB2.out.size)).setCell (Nat.le_succ _) _).trans (below_put _ _ (by omega)))).trans (below_put _ _ (by omega))
      have hc : (((Z.setCell ⟨w.heap.size + 1, 0, none⟩ (.bool true)).putObj D2 (.deferred none)).putObj D1 (.deferred none)).cell? ⟨w.heap.size + 1, 0, none⟩ = some (.bool true) := by
        have : Boxed (((Z.setCell ⟨w.heap.size + 1, 0, none⟩ (.bool true)).putObj D2 (.deferred none)).putObj D1 (.deferred none)) (w.heap.size + 1) 4 (.bool true) := (World.putObj_heap_other (by omega)).trans ((World.putObj_heap_other (by omega)).trans (hRb.set _))
        exact this.cell
      rw [ha2]
      clear hC hn hD hRb hrow hK2 hd1
      gi_wp2_with fail
      refine ⟨by simp, .inl ⟨_, _, rfl, run_takeDeferred hK3, by simp, .inl ⟨_, _, rfl, run_takeDeferred hK4, ?_⟩⟩⟩
      exact ⟨.bool true, by simp [results, Try.results3, go_sem, hc], rfl, hb.out⟩
    case stop2 =>
      rintro D2 c' pre' Z hD2 hp hX hK2
      exact hX.elim
end Go.Proofs.Ytgfonnjblbpogaa
