import Derived.Test.YtgfonnjblbpogaaBeSeq
import Derived.Test.YtgfonnjblbpogaaBtEl
import Derived.RecoverIn
namespace Go.Proofs.Ytgfonnjblbpogaa
open Go.RowKit Go.Shelf
set_option linter.unusedVariables false

/-- A deferred call that may recover, in the wide fence. -/
theorem callsDW_of_wpS {n : Nat} {P : Program} {f : FuncId} {fn : Func} {c : Code} {args : Array Value} {u : FrameMode} {w : World} {R : Ending → FrameMode → World → Prop}
    (hf : P.funcs[f]? = some fn) (hb : fn.body = some c)
    (h : ∀ (c₀ : Frame) (cs : List Frame), c₀.mode = u →
      c.wpS P (bodyPostS P fn c₀ cs R) { tmps := args ++ Array.replicate (fn.ntmps - args.size) undef, defers := [] } (c₀ :: cs) w) :
    CallsDIn Fence.wide n P f args u w R := by
  refine ⟨trivial, fun c₀ cs hu _ => ?_⟩
  let b : Frame := { (default : Frame) with fn := f, kind := .deferred }
  have henter : Frame.enter P f args .deferred =
      b.at { tmps := args ++ Array.replicate (fn.ntmps - args.size) undef, defers := [] } [.code c] := by
    simp [Frame.enter, Frame.at, hf, hb, b]
  obtain ⟨e, a', cs', w', hq, harr⟩ := h c₀ cs hu b [] rfl rfl
  rw [← henter] at harr
  cases e with
  | normal =>
    obtain ⟨hd, u', rfl, v, hr, hR⟩ := hq
    exact ⟨.returned v, u', w', _, hR, comesIn_wide.2 (Steps.trans harr (.one step_end)), rfl, rfl, rfl, hd, fn, hf, hr⟩
  | ret =>
    obtain ⟨hd, u', rfl, v, hr, hR⟩ := hq
    obtain ⟨todo, hs⟩ := harr
    exact ⟨.returned v, u', w', _, hR, comesIn_wide.2 hs, rfl, rfl, rfl, hd, fn, hf, hr⟩
  | panic chain =>
    obtain ⟨hd, u', rfl, hR⟩ := hq
    obtain ⟨todo, hs⟩ := harr
    exact ⟨.panicked chain, u', w', _, hR, comesIn_wide.2 hs, rfl, rfl, rfl, hd, fn, hf⟩
  | exit id => exact hq.elim
  | goto l => exact hq.elim
  | outgrown =>
    obtain ⟨u', hR⟩ := hq
    exact ⟨.outgrown, u', w', b, hR, comesIn_wide.2 (harr.resolve_left (by simp [b])), rfl, rfl, trivial⟩

theorem elemsD_panic (n b : Nat) (c q : Int) (older : List PanicEntry) (w : World) (h0 : w.cell? ⟨b, 0, none⟩ = some (.bool false)) :
    CallsDIn Fence.wide n Try.prog 30 #[.pointer (some ⟨b, 0, none⟩)] (.panicking ({ v := .iface 74 (fltV c q), recovered := false } :: older)) w fun e u' w' =>
      e = .returned (.tuple #[]) ∧ u' = .panicking ({ v := .iface 74 (fltV c q), recovered := true } :: older) ∧ Below w.heap.size w w' := by
  refine callsDW_of_wpS Try.func30 rfl fun c₀ cs hu => ?_
  refine wpS_seq ?_
  apply wpS_region
  simp [wpOpsS, go_sem, h0, Try.ntmps30, Exit.thenS]
  refine wpS_cond rfl ?_
  simp only [if_true]
  apply wpS_region
  simp [wpOpsS, go_sem, recoverD, hu]
  refine (ended_fault c q w).mono ?_
  rintro e w1 ⟨rfl, hb1⟩
  simp [go_sem, bodyPostS, results, Try.results30]
  exact hb1
theorem elemsD_idle (n b : Nat) (w : World) (h0 : w.cell? ⟨b, 0, none⟩ = some (.bool false)) :
    CallsDIn Fence.wide n Try.prog 30 #[.pointer (some ⟨b, 0, none⟩)] .returning w fun e u' w' =>
      e = .returned (.tuple #[]) ∧ u' = .returning ∧ Below w.heap.size w w' := by
  refine callsDW_of_wpS Try.func30 rfl fun c₀ cs hu => ?_
  refine wpS_seq ?_
  apply wpS_region
  simp [wpOpsS, go_sem, h0, Try.ntmps30, Exit.thenS]
  refine wpS_cond rfl ?_
  simp only [if_true]
  apply wpS_region
  simp [wpOpsS, go_sem, recoverD, hu]
  refine (ended_nil w).mono ?_
  rintro e w1 ⟨rfl, hb1⟩
  cases c₀
  simp_all [go_sem, bodyPostS, results, Try.results30]
theorem elemsD_out (n b : Nat) (w : World) (h0 : w.cell? ⟨b, 0, none⟩ = some (.bool true)) :
    CallsDIn Fence.wide n Try.prog 30 #[.pointer (some ⟨b, 0, none⟩)] .returning w fun e u' w' =>
      e = .returned (.tuple #[]) ∧ u' = .returning ∧ Below w.heap.size w w' := by
  refine callsDW_of_wpS Try.func30 rfl fun c₀ cs hu => ?_
  refine wpS_of_wp ?_
  have hc : ({ c₀ with mode := .returning } : Frame) = c₀ := by rw [← hu]
  simp only [Try.ntmps30, List.size_toArray, List.length_cons, List.length_nil, Nat.reduceAdd, Nat.reduceSub, Array.replicate_succ, Array.replicate_zero, List.push_toArray, List.append_toArray, List.nil_append, List.cons_append]
  go_wp2_with fail
  exact ⟨rfl, .returning, by rw [hc], .tuple #[], by simp [results, Try.results30], rfl, rfl, Below.refl _ _⟩
end Go.Proofs.Ytgfonnjblbpogaa
