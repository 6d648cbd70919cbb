import Derived.Test.YtfpphhbpoaobfaaGreatDoorRdE
namespace Go.Proofs.YtfpphhbpoaobfaaGreatDoor
namespace Rd
open Go.RowKit Go.Shelf
open GSeM (StM postM own_below)
set_option linter.unusedVariables false

/-- How the world moves between two records: what is older than B stays, of the rest all cells but the reader's own. -/
def Mr (B : Nat) (W W' : World) : Prop := (W'.os = W.os ∧ W'.tape = W.tape ∧ W'.output = W.output) ∧ W.heap.size ≤ W'.heap.size ∧ ∀ (k : Nat) (o : Obj), W.heap[k]? = some o → (k < B ∨ (o.isCells = true ∧ ¬ isT o)) → W'.heap[k]? = some o
theorem Mr.refl (B : Nat) (W : World) : Mr B W W := ⟨⟨rfl, rfl, rfl⟩, Nat.le_refl _, fun _ _ h _ => h⟩
theorem Mr.trans {B : Nat} {X Y Z : World} (h : Mr B X Y) (h' : Mr B Y Z) : Mr B X Z := ⟨⟨h'.1.1.trans h.1.1, h'.1.2.1.trans h.1.2.1, h'.1.2.2.trans h.1.2.2⟩, Nat.le_trans h.2.1 h'.2.1, fun k o hk ho => h'.2.2 k o (h.2.2 k o hk ho) ho⟩
theorem Mr.weaken {B B' : Nat} {W W' : World} (h : Mr B' W W') (hB : B ≤ B') : Mr B W W' := ⟨h.1, h.2.1, fun k o hk ho => h.2.2 k o hk (ho.imp_left fun h => by omega)⟩
theorem Mr.of_below {B : Nat} {W W' : World} (hb : Below W.heap.size W W') : Mr B W W' := ⟨⟨hb.os, hb.tape, hb.output⟩, hb.size, fun k o hk _ => (hb.block k (Array.getElem?_eq_some_iff.1 hk).1).trans hk⟩
theorem Mr.of_mv {B B0 : Nat} {W W' : World} (h : Mv B0 W W') (hB : B ≤ B0) : Mr B W W' := ⟨h.1, h.2.1, fun k o hk ho => h.2.2 k o hk (ho.imp (fun h => by omega) (fun h => h.2))⟩
theorem Mr.of_grown {B : Nat} {W W' : World} {row : Option Nat} (h : W.grownBy W' row) (hr : ∀ r, row = some r → B ≤ r ∧ ∃ o : Obj, W.heap[r]? = some o ∧ o.isCells = false) : Mr B W W' := by
  refine ⟨⟨h.os, h.tape, h.output⟩, h.size, fun k o hk ho => ?_⟩
  by_cases e : row = some k
  · obtain ⟨h1, o', h2, h3⟩ := hr k e
    rw [hk] at h2
    injection h2 with h2
    subst h2
    rcases ho with ho | ho
    · omega
    · rw [h3] at ho
      cases ho.1
  · exact (h.block k (Array.getElem?_eq_some_iff.1 hk).1 (fun e' => e e'.symm)).trans hk
theorem str_own {β : Type} {B : Nat} {J : β → World → Prop} (h : StM (Mr B) J) : OwnFrom B J := fun s W W' row hs hg hr => h s W W' hs (Mr.of_grown hg hr)
theorem keeps_mono {B B' : Nat} {W W' : World} (h : KeepsFrom B W W') (hB : B ≤ B') : KeepsFrom B' W W' := ⟨h.size, fun k o hk => h.same k o (by omega)⟩
theorem keeps_put {B l : Nat} {W : World} {o' : Obj} (h : l < B) : KeepsFrom B W (W.putObj l o') := ⟨(grownBy_putObj' W l o').size, fun k o hk ho _ => (World.putObj_heap_other (by omega)).trans ho⟩
/-- What an iterator says that ranges over another one itself and lays what it hands out. -/
def SeqR {α : Type} (F : Fence) (n : Nat) (P : Program) (g : Nat) (lb : Array Value) (encs : α → Array Value) (G : α → Nat → World → Prop) (Kp : World → World → Prop) (S Sp : List α → Prop) (N : Nat) (w : World) : Prop :=
  ∀ (l : Nat) (J Jx : List α → World → Prop) (W : World), Below w.heap.size w W → StM (Mr W.heap.size) J → StM (Mr W.heap.size) Jx →
    (∀ pre x W0 W1, J pre W0 → Mr W.heap.size W0 W1 → G x W0.heap.size W1 → Sp (pre ++ [x]) → pre.length < N → YieldAt F (n - 1) P l (encs x) W1 fun e W' => (KeepsFrom W.heap.size W1 W' ∧ Kp W1 W') ∧
      ((e = .returned (.bool true) ∧ J (pre ++ [x]) W') ∨ (e = .returned (.bool false) ∧ Jx (pre ++ [x]) W'))) →
    J [] W →
    CallsIn F n P g (#[.func (.yield l) #[] #[]] ++ lb) W fun e W' => (∃ v, e = .returned v) ∧ ((∃ xs, S xs ∧ J xs W') ∨ (∃ pre, Sp pre ∧ Jx pre W'))

theorem range_r {F : Fence} {n : Nat} {P : Program} {α : Type} {g : Operand} {ps : Array Tmp} {assign body : Code} {Q : Exit → Act → World → Prop} {a : Act} {w : World}
    (hro : F.round = none) (h1 : 1 ≤ n) {gf : Nat} {lb : Array Value} (hg : a.eval g = .func (.func gf) #[] lb) (hFg : F.fn gf) (eg : ∀ args w, (callFunc gf args).run P w = .ok (.enter gf args) w)
    {encs : α → Array Value} {G : α → Nat → World → Prop} {Kp : World → World → Prop} {S Sp : List α → Prop} {N : Nat} {w0 : World} (hseq : SeqR F (n - 1) P gf lb encs G Kp S Sp N w0)
    (hKt : ∀ {A B C : World}, Kp A B → Kp B C → Kp A C) (hKb : ∀ (W : World) (l : Nat) (o o' : Obj), w.heap.size ≤ l → W.heap[l]? = some o → o.isCells = false → o.isWalk = false → Kp W (W.putObj l o'))
    (hb0 : Below w0.heap.size w0 w) (hps : ∀ x, (encs x).size = ps.size)
    (I : List α → World → Prop) (Ix : Code → List α → World → Prop) (hI : OwnFrom w.heap.size I) (hIx : ∀ c, OwnFrom w.heap.size (Ix c)) (hIM : StM (Mr w.heap.size) I) (hIxM : ∀ c, StM (Mr w.heap.size) (Ix c)) (h0 : I [] w)
    (Ax : List α → α → Nat → Act → World → Prop) (hAx : ∀ pre x B a', OwnFrom w.heap.size (fun (_ : Unit) W => Ax pre x B a' W))
    (hassign : ∀ (l : Nat) (pre : List α) (x : α) (W0 W : World) (K : Act → World → Prop), I pre W0 → Mr w.heap.size W0 W → I pre W → G x W0.heap.size W → Sp (pre ++ [x]) → pre.length < N → w.heap.size ≤ W0.heap.size →
      (∀ a' W', KeepsFrom w.heap.size W W' → Kp W W' → Ax pre x W0.heap.size a' W' → K a' W') →
      assign.wpIn (F.inRound l) (n - 1 - 1) P (Exit.then K (fun _ _ _ => False)) { tmps := (ps.zip (encs x)).foldl (fun t (p, v) => t.setIfInBounds p v) a.tmps, defers := [] } W)
    (hbody : ∀ (l : Nat) (pre : List α) (x : α) (B : Nat) (a' : Act) (W : World), w.heap.size ≤ l → (∃ r, W.heap[l]? = some (.loop r)) → Ax pre x B a' W → pre.length < N → body.wpIn (F.inRound l) (n - 1 - 1) P (postM w.heap.size Kp I Ix (pre ++ [x]) W) a' W)
    (hdone : ∀ (D : Nat) (xs : List α) (W : World), w.heap.size ≤ D → S xs → I xs W → W.heap[D]? = some (.deferred (some [])) → Q .normal { a with defers := { target := .collected D, args := #[] } :: a.defers } W)
    (hstop : ∀ (D : Nat) (c : Code) (pre : List α) (W : World), w.heap.size ≤ D → Sp pre → Ix c pre W → W.heap[D]? = some (.deferred (some [])) → c.wpIn F n P Q { a with defers := { target := .collected D, args := #[] } :: a.defers } W) :
    (Code.rangeFunc g ps assign body).wpIn F n P Q a w := by
  refine wpIn_rangeFunc (fun fn hfn => ?_)
  obtain ⟨R, hR⟩ : ∃ R : LoopState → Option Code → Loop, R = fun s p => { state := s, pending := p, fn, tmps := a.tmps, params := ps, assign, body, defers := w.heap.size } := ⟨_, rfl⟩
  let V : World := (w.alloc (.deferred (some []))).alloc (.loop (R .ready none))
  have vs : V.heap.size = w.heap.size + 2 := by simp [V]
  have hbV : Below w.heap.size w V := ((Below.refl _ w).alloc (Nat.le_refl _) _).alloc (by simp) _
  have vl : V.heap[w.heap.size + 1]? = some (.loop (R .ready none)) := by
    have := World.alloc_heap_new (w.alloc (.deferred (some []))) (.loop (R .ready none))
    rwa [World.size_alloc] at this
  have vd : V.heap[w.heap.size]? = some (.deferred (some [])) := (Below.heap_alloc _ _ _ (by simp)).trans (World.alloc_heap_new w _)
  have hent : (Instr.enterLoop fn a.tmps ps assign body F.round).run P w = .ok (w.heap.size + 1, [{ target := .collected w.heap.size, args := #[] }]) V := by
    rw [hro]
    have := run_enterLoop_outer (P := P) (w := w) fn a.tmps ps assign body
    rw [this]
    show _ = Result.ok _ ((w.alloc (.deferred (some []))).alloc (.loop (R .ready none)))
    rw [hR]
  refine ⟨w.heap.size + 1, [{ target := .collected w.heap.size, args := #[] }], V, { target := .fn (.func gf) lb, args := #[.func (.yield (w.heap.size + 1)) #[] #[]] }, V, gf, #[.func (.yield (w.heap.size + 1)) #[] #[]] ++ lb, V, hent, ?_, ?_, ?_, fun _ => h1, ?_⟩
  · simp only [resolve, hg]
    simp [go_sem]
  · intro f' hf'
    simp [Target.leads] at hf'
    subst hf'
    exact hFg
  · simp [invoke, go_sem, eg]
  have st : ∀ {A B : World} {k : Nat} {o : Obj}, A.heap[k]? = some o → k < V.heap.size → Mr V.heap.size A B → B.heap[k]? = some o := fun hk ho hb => hb.2.2 _ _ hk (.inl ho)
  have mw : ∀ {A B : World}, Mr V.heap.size A B → Mr w.heap.size A B := fun h => h.weaken (by omega)
  refine (hseq (w.heap.size + 1)
    (fun pre W => I pre W ∧ W.heap[w.heap.size + 1]? = some (.loop (R .ready none)) ∧ W.heap[w.heap.size]? = some (.deferred (some [])))
    (fun pre W => ∃ c, Ix c pre W ∧ W.heap[w.heap.size + 1]? = some (.loop (R .done (some c))) ∧ W.heap[w.heap.size]? = some (.deferred (some [])))
    V (hb0.trans (hbV.mono hb0.size)) (fun s A B hs hm => ⟨hIM _ _ _ hs.1 (mw hm), st hs.2.1 (by omega) hm, st hs.2.2 (by omega) hm⟩)
    (fun s A B hs hm => by
      obtain ⟨c, q1, q2, q3⟩ := hs
      exact ⟨c, hIxM c _ _ _ q1 (mw hm), st q2 (by omega) hm, st q3 (by omega) hm⟩) ?round ⟨hI.alloc _ (hI.alloc _ h0), vl, vd⟩).mono ?behind
  case behind =>
    rintro e U ⟨⟨v, rfl⟩, h⟩
    rcases h with ⟨xs, hS, q1, q2, q3⟩ | ⟨pre, hS, c, q1, q2, q3⟩
    · have he := run_endLoop (P := P) q2 (by rw [hR]; simp)
      rw [hR] at he
      exact ⟨none, _, he, hdone _ xs _ (Nat.le_refl _) hS (hI.putObj _ q1 (by omega) q2 rfl) ((World.putObj_heap_other (by omega)).trans q3)⟩
    · have he := run_endLoop (P := P) q2 (by rw [hR]; simp)
      rw [hR] at he
      exact ⟨some c, _, he, hstop _ c pre _ (Nat.le_refl _) hS ((hIx c).putObj _ q1 (by omega) q2 rfl) ((World.putObj_heap_other (by omega)).trans q3)⟩
  case round =>
    rintro pre x U0 U ⟨t1, t2, t3⟩ hbU hG hSp hlen
    have u1 := hIM _ _ _ t1 (mw hbU)
    have u2 := st t2 (by omega) hbU
    have u3 := st t3 (by omega) hbU
    have hw0 : w.heap.size ≤ U0.heap.size := Nat.le_of_lt (Array.getElem?_eq_some_iff.1 t3).1
    have hy := run_yield (P := P) (args := encs x) u2 (by rw [hR]; exact hps x)
    rw [hR] at hy
    refine ⟨fn, _, assign, body, hy, roundIn_of_wpIn hfn (hassign _ pre x U0 U _ t1 (mw hbU) u1 hG hSp hlen hw0 ?_)⟩
    clear hy
    intro a' Ua hkfa hkpa hax
    have v2 := hkfa.same _ _ (by omega) u2 rfl
    have v3 := hkfa.same _ _ (Nat.le_refl _) u3 rfl
    have us : w.heap.size + 1 < Ua.heap.size := (Array.getElem?_eq_some_iff.1 v2).1
    refine ⟨_, run_beginRound v2 (by rw [hR]), ?_⟩
    obtain ⟨U1, hU1⟩ : ∃ U1, Ua.putObj (w.heap.size + 1) (.loop { R .ready none with state := .busy }) = U1 := ⟨_, rfl⟩
    have b1 : U1.heap[w.heap.size + 1]? = some (.loop { R .ready none with state := .busy }) := by rw [← hU1]; exact World.putObj_heap_same us
    have b2 : U1.heap[w.heap.size]? = some (.deferred (some [])) := by rw [← hU1]; exact (World.putObj_heap_other (by omega)).trans v3
    have b3 : Ax pre x U0.heap.size a' U1 := by rw [← hU1]; exact (hAx pre x _ a').putObj (s := ()) _ hax (by omega) v2 rfl
    have b4 : Kp Ua U1 := by rw [← hU1]; exact hKb _ _ _ _ (by omega) v2 rfl rfl
    rw [hU1]
    refine wpIn_mono (hbody _ pre x _ a' U1 (by omega) ⟨_, b1⟩ b3 hlen) ?_
    have fin : ∀ (j : Option Code) (U2 : World), KeepsFrom w.heap.size U1 U2 → U2.heap[w.heap.size + 1]? = some (.loop { R .ready none with state := .busy }) ∧
        (Instr.endRound (w.heap.size + 1) j).run P U2 = .ok (.bool j.isNone) (U2.putObj (w.heap.size + 1) (.loop (R (if j.isNone then .ready else .done) j))) ∧
        (U2.putObj (w.heap.size + 1) (.loop (R (if j.isNone then .ready else .done) j))).heap[w.heap.size + 1]? = some (.loop (R (if j.isNone then .ready else .done) j)) ∧
        (U2.putObj (w.heap.size + 1) (.loop (R (if j.isNone then .ready else .done) j))).heap[w.heap.size]? = some (.deferred (some [])) := fun j U2 hk => by
      have c1 := hk.same _ _ (by omega) b1 rfl
      have c2 := hk.same _ _ (Nat.le_refl _) b2 rfl
      have c3 := run_endRound (P := P) j c1
      refine ⟨c1, ?_, World.putObj_heap_same (Array.getElem?_eq_some_iff.1 c1).1, (World.putObj_heap_other (by omega)).trans c2⟩
      rw [hR] at c3 ⊢
      exact c3
    have kf : ∀ (U2 : World) (o' : Obj), KeepsFrom w.heap.size U1 U2 → KeepsFrom V.heap.size U (U2.putObj (w.heap.size + 1) o') := fun U2 o' hk => by
      have k1 : KeepsFrom V.heap.size U Ua := keeps_mono hkfa (by omega)
      have k2 : KeepsFrom V.heap.size Ua U1 := by rw [← hU1]; exact keeps_put (by omega)
      exact ((k1.trans k2).trans (keeps_mono hk (by omega))).trans (keeps_put (by omega))
    rintro e a3 U2 hp
    cases e with
    | normal =>
      obtain ⟨c0, c1, c2⟩ := fin none U2 hp.1
      exact ⟨_, _, c1, ⟨kf U2 _ hp.1, hKt hkpa (hKt (hKt b4 hp.2.1) (hKb _ _ _ _ (by omega) c0 rfl rfl))⟩, .inl ⟨rfl, hI.putObj _ hp.2.2 (by omega) c0 rfl, c2⟩⟩
    | ret =>
      obtain ⟨c0, c1, c2⟩ := fin (some .ret) U2 hp.1
      exact ⟨_, _, c1, ⟨kf U2 _ hp.1, hKt hkpa (hKt (hKt b4 hp.2.1) (hKb _ _ _ _ (by omega) c0 rfl rfl))⟩, .inr ⟨rfl, _, (hIx _).putObj _ hp.2.2 (by omega) c0 rfl, c2⟩⟩
    | exit i =>
      obtain ⟨c0, c1, c2⟩ := fin (some (.exit i)) U2 hp.1
      exact ⟨_, _, c1, ⟨kf U2 _ hp.1, hKt hkpa (hKt (hKt b4 hp.2.1) (hKb _ _ _ _ (by omega) c0 rfl rfl))⟩, .inr ⟨rfl, _, (hIx _).putObj _ hp.2.2 (by omega) c0 rfl, c2⟩⟩
    | goto t =>
      obtain ⟨c0, c1, c2⟩ := fin (some (.goto t)) U2 hp.1
      exact ⟨_, _, c1, ⟨kf U2 _ hp.1, hKt hkpa (hKt (hKt b4 hp.2.1) (hKb _ _ _ _ (by omega) c0 rfl rfl))⟩, .inr ⟨rfl, _, (hIx _).putObj _ hp.2.2 (by omega) c0 rfl, c2⟩⟩
    | panic c => exact hp.elim
    | outgrown => exact hp.elim

end Rd
end Go.Proofs.YtfpphhbpoaobfaaGreatDoor
