import Derived.RangeFuncNested
import Derived.RangeFuncBound
import Derived.RangeFuncCalls
import Derived.RangeFuncLeaves
import Derived.RangeFuncBox
import Derived.Shelf.Abstract
import Derived.WalkKit
namespace Go.Proofs.YtoomoicjoockjaaGreatDoor
namespace GSeM
open Go.RowKit Go.Shelf
set_option linter.unusedVariables false

/-- It stands where the world moves by Mv. -/
def StM {β : Type} (Mv : World → World → Prop) (J : β → World → Prop) : Prop := ∀ s W W', J s W → Mv W W' → J s W'
/-- What a round is to leave. -/
def postM {α : Type} (B : Nat) (Kp : World → World → Prop) (I : List α → World → Prop) (Ix : Code → List α → World → Prop) (xs : List α) (W : World) : Exit → Act → World → Prop
  | .normal, _, W' => KeepsFrom B W W' ∧ Kp W W' ∧ I xs W'
  | .ret, _, W' => KeepsFrom B W W' ∧ Kp W W' ∧ Ix .ret xs W'
  | .exit id, _, W' => KeepsFrom B W W' ∧ Kp W W' ∧ Ix (.exit id) xs W'
  | .goto t, _, W' => KeepsFrom B W W' ∧ Kp W W' ∧ Ix (.goto t) xs W'
  | .panic _, _, _ => False
  | .outgrown, _, _ => False
theorem own_below {β : Type} {B : Nat} {I : β → World → Prop} (h : OwnFrom B I) {s : β} {W W' : World} (hs : I s W) (hb : Below W.heap.size W W') : I s W' :=
  h s W W' none hs ⟨hb.os, hb.tape, hb.output, hb.size, fun k hk _ => hb.block k hk⟩ (fun r e => by cases e)
/-- What an iterator says that lays what it hands out: where x is handed out, G says of it that it lies in blocks of its own. -/
def SeqM {α : Type} (F : Fence) (n : Nat) (P : Program) (g : Nat) (lb : Array Value) (encs : α → Array Value) (G : α → Nat → World → Prop) (Mv : World → World → Prop) (Kp : World → World → Prop) (S Sp : List α → Prop) (N : Nat) (w : World) : Prop :=
  ∀ (l : Nat) (J Jx : List α → World → Prop) (W : World), Below w.heap.size w W → StM Mv J → StM Mv Jx →
    (∀ pre x W0 W1, J pre W0 → Mv W0 W1 → G x W0.heap.size W1 → Sp (pre ++ [x]) → pre.length < N → YieldAt F (n - 1) P l (encs x) W1 fun e W' => Kp W1 W' ∧
      ((e = .returned (.bool true) ∧ J (pre ++ [x]) W') ∨ (e = .returned (.bool false) ∧ Jx (pre ++ [x]) W'))) →
    J [] W →
    CallsIn F n P g (#[.func (.yield l) #[] #[]] ++ lb) W fun e W' => (∃ v, e = .returned v) ∧ ((∃ xs, S xs ∧ J xs W') ∨ (∃ pre, Sp pre ∧ Jx pre W'))
theorem SeqM.inRound {α : Type} {F : Fence} {n : Nat} {P : Program} {g : Nat} {lb : Array Value} {encs : α → Array Value} {G : α → Nat → World → Prop} {Mv : World → World → Prop} {Kp : World → World → Prop} {S Sp : List α → Prop} {N : Nat} {w : World} (l : Nat) (h : SeqM F n P g lb encs G Mv Kp S Sp N w) : SeqM (F.inRound l) n P g lb encs G Mv Kp S Sp N w := h

theorem range_m {F : Fence} {n : Nat} {P : Program} {α : Type} {g : Operand} {ps : Array Tmp} {assign body : Code} {Q : Exit → Act → World → Prop} {a : Act} {w : World}
    (hro : F.round = none) (h1 : 1 ≤ n) {gf : Nat} {lb : Array Value} (hg : a.eval g = .func (.func gf) #[] lb) (hFg : F.fn gf) (eg : ∀ args w, (callFunc gf args).run P w = .ok (.enter gf args) w)
    {encs : α → Array Value} {G : α → Nat → World → Prop} {Mv : World → World → Prop} {Kp : World → World → Prop} {S Sp : List α → Prop} {N : Nat} {w0 : World} (hseq : SeqM F (n - 1) P gf lb encs G Mv Kp S Sp N w0)
    (hKt : ∀ {A B C : World}, Kp A B → Kp B C → Kp A C) (hKb : ∀ (W : World) (l : Nat) (o o' : Obj), w.heap.size ≤ l → W.heap[l]? = some o → o.isCells = false → o.isWalk = false → Kp W (W.putObj l o'))
    (hb0 : Below w0.heap.size w0 w) (hps : ∀ x, (encs x).size = ps.size)
    (I : List α → World → Prop) (Ix : Code → List α → World → Prop) (hI : OwnFrom w.heap.size I) (hIx : ∀ c, OwnFrom w.heap.size (Ix c)) (hIM : StM Mv I) (hIxM : ∀ c, StM Mv (Ix c)) (hMv : ∀ (A B : World), Mv A B → ∀ (k : Nat) (o : Obj), A.heap[k]? = some o → o.isCells = false → B.heap[k]? = some o) (h0 : I [] w)
    (Ax : List α → α → Nat → Act → World → Prop) (hAx : ∀ pre x B a', OwnFrom w.heap.size (fun (_ : Unit) W => Ax pre x B a' W))
    (hassign : ∀ (l : Nat) (pre : List α) (x : α) (W0 W : World) (K : Act → World → Prop), I pre W0 → Mv W0 W → I pre W → G x W0.heap.size W → Sp (pre ++ [x]) → pre.length < N → w.heap.size ≤ W0.heap.size →
      (∀ a' W', KeepsFrom w.heap.size W W' → Kp W W' → Ax pre x W0.heap.size a' W' → K a' W') →
      assign.wpIn (F.inRound l) (n - 1 - 1) P (Exit.then K (fun _ _ _ => False)) { tmps := (ps.zip (encs x)).foldl (fun t (p, v) => t.setIfInBounds p v) a.tmps, defers := [] } W)
    (hbody : ∀ (l : Nat) (pre : List α) (x : α) (B : Nat) (a' : Act) (W : World), w.heap.size ≤ l → (∃ r, W.heap[l]? = some (.loop r)) → Ax pre x B a' W → pre.length < N → body.wpIn (F.inRound l) (n - 1 - 1) P (postM w.heap.size Kp I Ix (pre ++ [x]) W) a' W)
    (hdone : ∀ (D : Nat) (xs : List α) (W : World), w.heap.size ≤ D → S xs → I xs W → W.heap[D]? = some (.deferred (some [])) → Q .normal { a with defers := { target := .collected D, args := #[] } :: a.defers } W)
    (hstop : ∀ (D : Nat) (c : Code) (pre : List α) (W : World), w.heap.size ≤ D → Sp pre → Ix c pre W → W.heap[D]? = some (.deferred (some [])) → c.wpIn F n P Q { a with defers := { target := .collected D, args := #[] } :: a.defers } W) :
    (Code.rangeFunc g ps assign body).wpIn F n P Q a w := by
  refine wpIn_rangeFunc (fun fn hfn => ?_)
  obtain ⟨R, hR⟩ : ∃ R : LoopState → Option Code → Loop, R = fun s p => { state := s, pending := p, fn, tmps := a.tmps, params := ps, assign, body, defers := w.heap.size } := ⟨_, rfl⟩
  let V : World := (w.alloc (.deferred (some []))).alloc (.loop (R .ready none))
  have vs : V.heap.size = w.heap.size + 2 := by simp [V]
  have hbV : Below w.heap.size w V := ((Below.refl _ w).alloc (Nat.le_refl _) _).alloc (by simp) _
  have vl : V.heap[w.heap.size + 1]? = some (.loop (R .ready none)) := by
    have := World.alloc_heap_new (w.alloc (.deferred (some []))) (.loop (R .ready none))
    rwa [World.size_alloc] at this
  have vd : V.heap[w.heap.size]? = some (.deferred (some [])) := (Below.heap_alloc _ _ _ (by simp)).trans (World.alloc_heap_new w _)
  have hent : (Instr.enterLoop fn a.tmps ps assign body F.round).run P w = .ok (w.heap.size + 1, [{ target := .collected w.heap.size, args := #[] }]) V := by
    rw [hro]
    have := run_enterLoop_outer (P := P) (w := w) fn a.tmps ps assign body
    rw [this]
    show _ = Result.ok _ ((w.alloc (.deferred (some []))).alloc (.loop (R .ready none)))
    rw [hR]
  refine ⟨w.heap.size + 1, [{ target := .collected w.heap.size, args := #[] }], V, { target := .fn (.func gf) lb, args := #[.func (.yield (w.heap.size + 1)) #[] #[]] }, V, gf, #[.func (.yield (w.heap.size + 1)) #[] #[]] ++ lb, V, hent, ?_, ?_, ?_, fun _ => h1, ?_⟩
  · simp only [resolve, hg]
    simp [go_sem]
  · intro f' hf'
    simp [Target.leads] at hf'
    subst hf'
    exact hFg
  · simp [invoke, go_sem, eg]
  have st : ∀ {A B : World} {k : Nat} {o : Obj}, A.heap[k]? = some o → o.isCells = false → Mv A B → B.heap[k]? = some o := fun hk ho hb => hMv _ _ hb _ _ hk ho
  refine (hseq (w.heap.size + 1)
    (fun pre W => I pre W ∧ W.heap[w.heap.size + 1]? = some (.loop (R .ready none)) ∧ W.heap[w.heap.size]? = some (.deferred (some [])))
    (fun pre W => ∃ c, Ix c pre W ∧ W.heap[w.heap.size + 1]? = some (.loop (R .done (some c))) ∧ W.heap[w.heap.size]? = some (.deferred (some [])))
    V (hb0.trans (hbV.mono hb0.size)) (fun s A B hs hm => ⟨hIM _ _ _ hs.1 hm, st hs.2.1 rfl hm, st hs.2.2 rfl hm⟩)
    (fun s A B hs hm => by
      obtain ⟨c, q1, q2, q3⟩ := hs
      exact ⟨c, hIxM c _ _ _ q1 hm, st q2 rfl hm, st q3 rfl hm⟩) ?round ⟨hI.alloc _ (hI.alloc _ h0), vl, vd⟩).mono ?behind
  case behind =>
    rintro e U ⟨⟨v, rfl⟩, h⟩
    rcases h with ⟨xs, hS, q1, q2, q3⟩ | ⟨pre, hS, c, q1, q2, q3⟩
    · have he := run_endLoop (P := P) q2 (by rw [hR]; simp)
      rw [hR] at he
      exact ⟨none, _, he, hdone _ xs _ (Nat.le_refl _) hS (hI.putObj _ q1 (by omega) q2 rfl) ((World.putObj_heap_other (by omega)).trans q3)⟩
    · have he := run_endLoop (P := P) q2 (by rw [hR]; simp)
      rw [hR] at he
      exact ⟨some c, _, he, hstop _ c pre _ (Nat.le_refl _) hS ((hIx c).putObj _ q1 (by omega) q2 rfl) ((World.putObj_heap_other (by omega)).trans q3)⟩
  case round =>
    rintro pre x U0 U ⟨t1, t2, t3⟩ hbU hG hSp hlen
    have u1 := hIM _ _ _ t1 hbU
    have u2 := st t2 rfl hbU
    have u3 := st t3 rfl hbU
    have hw0 : w.heap.size ≤ U0.heap.size := Nat.le_of_lt (Array.getElem?_eq_some_iff.1 t3).1
    have hy := run_yield (P := P) (args := encs x) u2 (by rw [hR]; exact hps x)
    rw [hR] at hy
    refine ⟨fn, _, assign, body, hy, roundIn_of_wpIn hfn (hassign _ pre x U0 U _ t1 hbU u1 hG hSp hlen hw0 ?_)⟩
    clear hy
    intro a' Ua hkfa hkpa hax
    have v2 := hkfa.same _ _ (by omega) u2 rfl
    have v3 := hkfa.same _ _ (Nat.le_refl _) u3 rfl
    have us : w.heap.size + 1 < Ua.heap.size := (Array.getElem?_eq_some_iff.1 v2).1
    refine ⟨_, run_beginRound v2 (by rw [hR]), ?_⟩
    obtain ⟨U1, hU1⟩ : ∃ U1, Ua.putObj (w.heap.size + 1) (.loop { R .ready none with state := .busy }) = U1 := ⟨_, rfl⟩
    have b1 : U1.heap[w.heap.size + 1]? = some (.loop { R .ready none with state := .busy }) := by rw [← hU1]; exact World.putObj_heap_same us
    have b2 : U1.heap[w.heap.size]? = some (.deferred (some [])) := by rw [← hU1]; exact (World.putObj_heap_other (by omega)).trans v3
    have b3 : Ax pre x U0.heap.size a' U1 := by rw [← hU1]; exact (hAx pre x _ a').putObj (s := ()) _ hax (by omega) v2 rfl
    have b4 : Kp Ua U1 := by rw [← hU1]; exact hKb _ _ _ _ (by omega) v2 rfl rfl
    rw [hU1]
    refine wpIn_mono (hbody _ pre x _ a' U1 (by omega) ⟨_, b1⟩ b3 hlen) ?_
    have fin : ∀ (j : Option Code) (U2 : World), KeepsFrom w.heap.size U1 U2 → U2.heap[w.heap.size + 1]? = some (.loop { R .ready none with state := .busy }) ∧
        (Instr.endRound (w.heap.size + 1) j).run P U2 = .ok (.bool j.isNone) (U2.putObj (w.heap.size + 1) (.loop (R (if j.isNone then .ready else .done) j))) ∧
        (U2.putObj (w.heap.size + 1) (.loop (R (if j.isNone then .ready else .done) j))).heap[w.heap.size + 1]? = some (.loop (R (if j.isNone then .ready else .done) j)) ∧
        (U2.putObj (w.heap.size + 1) (.loop (R (if j.isNone then .ready else .done) j))).heap[w.heap.size]? = some (.deferred (some [])) := fun j U2 hk => by
      have c1 := hk.same _ _ (by omega) b1 rfl
      have c2 := hk.same _ _ (Nat.le_refl _) b2 rfl
      have c3 := run_endRound (P := P) j c1
      refine ⟨c1, ?_, World.putObj_heap_same (Array.getElem?_eq_some_iff.1 c1).1, (World.putObj_heap_other (by omega)).trans c2⟩
      rw [hR] at c3 ⊢
      exact c3
    rintro e a3 U2 hp
    cases e with
    | normal =>
      obtain ⟨c0, c1, c2⟩ := fin none U2 hp.1
      exact ⟨_, _, c1, hKt hkpa (hKt (hKt b4 hp.2.1) (hKb _ _ _ _ (by omega) c0 rfl rfl)), .inl ⟨rfl, hI.putObj _ hp.2.2 (by omega) c0 rfl, c2⟩⟩
    | ret =>
      obtain ⟨c0, c1, c2⟩ := fin (some .ret) U2 hp.1
      exact ⟨_, _, c1, hKt hkpa (hKt (hKt b4 hp.2.1) (hKb _ _ _ _ (by omega) c0 rfl rfl)), .inr ⟨rfl, _, (hIx _).putObj _ hp.2.2 (by omega) c0 rfl, c2⟩⟩
    | exit i =>
      obtain ⟨c0, c1, c2⟩ := fin (some (.exit i)) U2 hp.1
      exact ⟨_, _, c1, hKt hkpa (hKt (hKt b4 hp.2.1) (hKb _ _ _ _ (by omega) c0 rfl rfl)), .inr ⟨rfl, _, (hIx _).putObj _ hp.2.2 (by omega) c0 rfl, c2⟩⟩
    | goto t =>
      obtain ⟨c0, c1, c2⟩ := fin (some (.goto t)) U2 hp.1
      exact ⟨_, _, c1, hKt hkpa (hKt (hKt b4 hp.2.1) (hKb _ _ _ _ (by omega) c0 rfl rfl)), .inr ⟨rfl, _, (hIx _).putObj _ hp.2.2 (by omega) c0 rfl, c2⟩⟩
    | panic c => exact hp.elim
    | outgrown => exact hp.elim

/-- The same, where the loop stands in a round of another one. -/
theorem range_mn {F : Fence} {n : Nat} {P : Program} {α : Type} {g : Operand} {ps : Array Tmp} {assign body : Code} {Q : Exit → Act → World → Prop} {a : Act} {w : World}
    {l₀ : Nat} {r₀ : Loop} (hro : F.round = some l₀) (hl₀ : w.heap[l₀]? = some (.loop r₀)) (h1 : 1 ≤ n) {gf : Nat} {lb : Array Value} (hg : a.eval g = .func (.func gf) #[] lb) (hFg : F.fn gf) (eg : ∀ args w, (callFunc gf args).run P w = .ok (.enter gf args) w)
    {encs : α → Array Value} {G : α → Nat → World → Prop} {Mv : World → World → Prop} {Kp : World → World → Prop} {S Sp : List α → Prop} {N : Nat} {w0 : World} (hseq : SeqM F (n - 1) P gf lb encs G Mv Kp S Sp N w0)
    (hKt : ∀ {A B C : World}, Kp A B → Kp B C → Kp A C) (hKb : ∀ (W : World) (l : Nat) (o o' : Obj), w.heap.size ≤ l → W.heap[l]? = some o → o.isCells = false → o.isWalk = false → Kp W (W.putObj l o'))
    (hb0 : Below w0.heap.size w0 w) (hps : ∀ x, (encs x).size = ps.size)
    (I : List α → World → Prop) (Ix : Code → List α → World → Prop) (hI : OwnFrom w.heap.size I) (hIx : ∀ c, OwnFrom w.heap.size (Ix c)) (hIM : StM Mv I) (hIxM : ∀ c, StM Mv (Ix c)) (hMv : ∀ (A B : World), Mv A B → ∀ (k : Nat) (o : Obj), A.heap[k]? = some o → o.isCells = false → B.heap[k]? = some o) (h0 : I [] w)
    (Ax : List α → α → Nat → Act → World → Prop) (hAx : ∀ pre x B a', OwnFrom w.heap.size (fun (_ : Unit) W => Ax pre x B a' W))
    (hassign : ∀ (l : Nat) (pre : List α) (x : α) (W0 W : World) (K : Act → World → Prop), I pre W0 → Mv W0 W → I pre W → G x W0.heap.size W → Sp (pre ++ [x]) → pre.length < N → w.heap.size ≤ W0.heap.size →
      (∀ a' W', KeepsFrom w.heap.size W W' → Kp W W' → Ax pre x W0.heap.size a' W' → K a' W') →
      assign.wpIn (F.inRound l) (n - 1 - 1) P (Exit.then K (fun _ _ _ => False)) { tmps := (ps.zip (encs x)).foldl (fun t (p, v) => t.setIfInBounds p v) a.tmps, defers := [] } W)
    (hbody : ∀ (l : Nat) (pre : List α) (x : α) (B : Nat) (a' : Act) (W : World), w.heap.size ≤ l → (∃ r, W.heap[l]? = some (.loop r)) → Ax pre x B a' W → pre.length < N → body.wpIn (F.inRound l) (n - 1 - 1) P (postM w.heap.size Kp I Ix (pre ++ [x]) W) a' W)
    (hdone : ∀ (xs : List α) (W : World), S xs → I xs W → Q .normal a W)
    (hstop : ∀ (c : Code) (pre : List α) (W : World), Sp pre → Ix c pre W → c.wpIn F n P Q a W) :
    (Code.rangeFunc g ps assign body).wpIn F n P Q a w := by
  refine wpIn_rangeFunc (fun fn hfn => ?_)
  obtain ⟨R, hR⟩ : ∃ R : LoopState → Option Code → Loop, R = fun s p => { state := s, pending := p, fn, tmps := a.tmps, params := ps, assign, body, defers := r₀.defers } := ⟨_, rfl⟩
  let V : World := w.alloc (.loop (R .ready none))
  have vs : V.heap.size = w.heap.size + 1 := by simp [V]
  have hbV : Below w.heap.size w V := (Below.refl _ w).alloc (Nat.le_refl _) _
  have vl : V.heap[w.heap.size]? = some (.loop (R .ready none)) := World.alloc_heap_new w _
  have hent : (Instr.enterLoop fn a.tmps ps assign body F.round).run P w = .ok (w.heap.size, []) V := by
    rw [hro, run_enterLoop_inner (P := P) hl₀ fn a.tmps ps assign body]
    show _ = Result.ok _ (w.alloc (.loop (R .ready none)))
    rw [hR]
  refine ⟨w.heap.size, [], V, { target := .fn (.func gf) lb, args := #[.func (.yield w.heap.size) #[] #[]] }, V, gf, #[.func (.yield w.heap.size) #[] #[]] ++ lb, V, hent, ?_, ?_, ?_, fun _ => h1, ?_⟩
  · simp only [resolve, hg]
    simp [go_sem]
  · intro f' hf'
    simp [Target.leads] at hf'
    subst hf'
    exact hFg
  · simp [invoke, go_sem, eg]
  have st : ∀ {A B : World} {k : Nat} {o : Obj}, A.heap[k]? = some o → o.isCells = false → Mv A B → B.heap[k]? = some o := fun hk ho hb => hMv _ _ hb _ _ hk ho
  refine (hseq w.heap.size
    (fun pre W => I pre W ∧ W.heap[w.heap.size]? = some (.loop (R .ready none)))
    (fun pre W => ∃ c, Ix c pre W ∧ W.heap[w.heap.size]? = some (.loop (R .done (some c))))
    V (hb0.trans (hbV.mono hb0.size)) (fun s A B hs hm => ⟨hIM _ _ _ hs.1 hm, st hs.2 rfl hm⟩)
    (fun s A B hs hm => by
      obtain ⟨c, q1, q2⟩ := hs
      exact ⟨c, hIxM c _ _ _ q1 hm, st q2 rfl hm⟩) ?round ⟨hI.alloc _ h0, vl⟩).mono ?behind
  case behind =>
    rintro e U ⟨⟨v, rfl⟩, h⟩
    rcases h with ⟨xs, hS, q1, q2⟩ | ⟨pre, hS, c, q1, q2⟩
    · have he := run_endLoop (P := P) q2 (by rw [hR]; simp)
      rw [hR] at he
      exact ⟨none, _, he, hdone xs _ hS (hI.putObj _ q1 (Nat.le_refl _) q2 rfl)⟩
    · have he := run_endLoop (P := P) q2 (by rw [hR]; simp)
      rw [hR] at he
      exact ⟨some c, _, he, hstop c pre _ hS ((hIx c).putObj _ q1 (Nat.le_refl _) q2 rfl)⟩
  case round =>
    rintro pre x U0 U ⟨t1, t2⟩ hbU hG hSp hlen
    have u1 := hIM _ _ _ t1 hbU
    have u2 := st t2 rfl hbU
    have hw0 : w.heap.size ≤ U0.heap.size := Nat.le_of_lt (Array.getElem?_eq_some_iff.1 t2).1
    have hy := run_yield (P := P) (args := encs x) u2 (by rw [hR]; exact hps x)
    rw [hR] at hy
    refine ⟨fn, _, assign, body, hy, roundIn_of_wpIn hfn (hassign _ pre x U0 U _ t1 hbU u1 hG hSp hlen hw0 ?_)⟩
    clear hy
    intro a' Ua hkfa hkpa hax
    have v2 := hkfa.same _ _ (Nat.le_refl _) u2 rfl
    have us : w.heap.size < Ua.heap.size := (Array.getElem?_eq_some_iff.1 v2).1
    refine ⟨_, run_beginRound v2 (by rw [hR]), ?_⟩
    obtain ⟨U1, hU1⟩ : ∃ U1, Ua.putObj w.heap.size (.loop { R .ready none with state := .busy }) = U1 := ⟨_, rfl⟩
    have b1 : U1.heap[w.heap.size]? = some (.loop { R .ready none with state := .busy }) := by rw [← hU1]; exact World.putObj_heap_same us
    have b3 : Ax pre x U0.heap.size a' U1 := by rw [← hU1]; exact (hAx pre x _ a').putObj (s := ()) _ hax (Nat.le_refl _) v2 rfl
    have b4 : Kp Ua U1 := by rw [← hU1]; exact hKb _ _ _ _ (Nat.le_refl _) v2 rfl rfl
    rw [hU1]
    refine wpIn_mono (hbody _ pre x _ a' U1 (Nat.le_refl _) ⟨_, b1⟩ b3 hlen) ?_
    have fin : ∀ (j : Option Code) (U2 : World), KeepsFrom w.heap.size U1 U2 → U2.heap[w.heap.size]? = some (.loop { R .ready none with state := .busy }) ∧
        (Instr.endRound w.heap.size j).run P U2 = .ok (.bool j.isNone) (U2.putObj w.heap.size (.loop (R (if j.isNone then .ready else .done) j))) ∧
        (U2.putObj w.heap.size (.loop (R (if j.isNone then .ready else .done) j))).heap[w.heap.size]? = some (.loop (R (if j.isNone then .ready else .done) j)) := fun j U2 hk => by
      have c1 := hk.same _ _ (Nat.le_refl _) b1 rfl
      have c3 := run_endRound (P := P) j c1
      refine ⟨c1, ?_, World.putObj_heap_same (Array.getElem?_eq_some_iff.1 c1).1⟩
      rw [hR] at c3 ⊢
      exact c3
    rintro e a3 U2 hp
    cases e with
    | normal =>
      obtain ⟨c0, c1, c2⟩ := fin none U2 hp.1
      exact ⟨_, _, c1, hKt hkpa (hKt (hKt b4 hp.2.1) (hKb _ _ _ _ (Nat.le_refl _) c0 rfl rfl)), .inl ⟨rfl, hI.putObj _ hp.2.2 (Nat.le_refl _) c0 rfl, c2⟩⟩
    | ret =>
      obtain ⟨c0, c1, c2⟩ := fin (some .ret) U2 hp.1
      exact ⟨_, _, c1, hKt hkpa (hKt (hKt b4 hp.2.1) (hKb _ _ _ _ (Nat.le_refl _) c0 rfl rfl)), .inr ⟨rfl, _, (hIx _).putObj _ hp.2.2 (Nat.le_refl _) c0 rfl, c2⟩⟩
    | exit i =>
      obtain ⟨c0, c1, c2⟩ := fin (some (.exit i)) U2 hp.1
      exact ⟨_, _, c1, hKt hkpa (hKt (hKt b4 hp.2.1) (hKb _ _ _ _ (Nat.le_refl _) c0 rfl rfl)), .inr ⟨rfl, _, (hIx _).putObj _ hp.2.2 (Nat.le_refl _) c0 rfl, c2⟩⟩
    | goto t =>
      obtain ⟨c0, c1, c2⟩ := fin (some (.goto t)) U2 hp.1
      exact ⟨_, _, c1, hKt hkpa (hKt (hKt b4 hp.2.1) (hKb _ _ _ _ (Nat.le_refl _) c0 rfl rfl)), .inr ⟨rfl, _, (hIx _).putObj _ hp.2.2 (Nat.le_refl _) c0 rfl, c2⟩⟩
    | panic c => exact hp.elim
    | outgrown => exact hp.elim
end GSeM
end Go.Proofs.YtoomoicjoockjaaGreatDoor
