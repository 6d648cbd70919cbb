import Derived.Test.YtgfonnjblbpogaaBwRw
import Derived.Test.YtgfonnjblbpogaaBwSm
import Derived.Deep.RegionLaw
namespace Go.Proofs.Ytgfonnjblbpogaa
open Go.RowKit
set_option linter.unusedVariables false

theorem add_offN (b o j : Nat) : (⟨b, o, none⟩ : Addr).add j = ⟨b, o + j, none⟩ := by unfold Addr.add; split <;> simp_all
theorem nv_app (l k : List Nd) : nv (l ++ k) = nv l ++ nv k := by simp [nv]
theorem nv_one (l : List Nd) : ∀ u ∈ nv l, u.oneCell' = true := by
  intro u hu
  obtain ⟨x, _, hx⟩ := List.mem_flatMap.1 hu
  exact ndV_one x u hx
/-- A row of nodes appended to a row of the call's own. -/
theorem appendN_run (w : World) (B : Nat) (v : Value) (l k : List Nd) (a : Option Addr) (c : Nat) (hown : OwnN w B v l) (hk : NdRow w a k) (hB : B ≤ w.heap.size) (hsz : (l.length + k.length) * 48 ≤ 140737488355328) :
    ∃ v' w', (Builtin.append_ #[33, 33] 33 #[v, .slice a k.length c]).run Try.prog w = .ok v' w' ∧ OwnN w' B v' (l ++ k) ∧ Below B w w' ∧ ∀ g, g < w.heap.size → v.ownBlock ≠ some g → w'.heap[g]? = w.heap[g]? := by
  obtain ⟨i0, hi, hz0, hz1, hz2⟩ := info_parts info_node
  by_cases h0 : k.length = 0
  · have hk0 := List.eq_nil_of_length_eq_zero h0
    subst hk0
    refine ⟨v, w, ?_, by rw [List.append_nil]; exact hown, Below.refl _ _, fun _ _ _ => rfl⟩
    cases a with
    | none =>
      rcases hown.2 with ⟨rfl, hn⟩ | ⟨g, cap, cur, rfl, _, _, hc, _⟩
      · simp [Builtin.append_, run_underlying Try.underlying33, sizeOf, typeInfo, hi, Builtin.lenOf, Builtin.firstCells]
      · simp [Builtin.append_, run_underlying Try.underlying33, sizeOf, typeInfo, hi, Builtin.lenOf, Builtin.firstCells, hc, storeCells]
    | some d =>
      rcases hown.2 with ⟨rfl, hn⟩ | ⟨g, cap, cur, rfl, _, _, hc, _⟩
      · simp [Builtin.append_, run_underlying Try.underlying33, sizeOf, typeInfo, hi, Builtin.lenOf, Builtin.firstCells, loadCells, loadCellsFrom]
      · simp [Builtin.append_, run_underlying Try.underlying33, sizeOf, typeInfo, hi, Builtin.lenOf, Builtin.firstCells, loadCells, loadCellsFrom, hc, storeCells]
  · obtain ⟨b, off, rfl, _⟩ := hk 0 (by omega)
    have hnews : ∀ j u, (nv k)[j]? = some u → w.cell? ((⟨b, off, none⟩ : Addr).add j) = some u := by
      intro j u hj
      have hjn : j < k.length * 5 := by
        rcases Nat.lt_or_ge j (k.length * 5) with h' | h'
        · exact h'
        · rw [List.getElem?_eq_none (by rw [nv_len]; exact h')] at hj; cases hj
      obtain ⟨i, r, rfl, hr⟩ : ∃ i r, j = i * 5 + r ∧ r < 5 := ⟨j / 5, j % 5, by omega, Nat.mod_lt _ (by decide)⟩
      have hi' : i < k.length := by omega
      rw [nv_at k i hi' r hr] at hj
      obtain ⟨b', off', e, q0, q1, q2, q3, q4⟩ := hk i hi'
      have e1 : b = b' := congrArg Addr.block (Option.some.inj e)
      have e2 : off = off' := congrArg Addr.off (Option.some.inj e)
      subst e1 e2
      rw [add_offN, ← hj]
      rcases r with _ | _ | _ | _ | _ | r
      · exact q0
      · rw [← Nat.add_assoc]; exact q1
      · rw [← Nat.add_assoc]; exact q2
      · rw [← Nat.add_assoc]; exact q3
      · rw [← Nat.add_assoc]; exact q4
      · omega
    obtain ⟨g, cap, w', hr, h2, h3, _, _⟩ := run_append_lies (P := Try.prog) w 33 33 B 39 i0 _ 5 48 Try.underlying33 hi hz0 hz1 hz2 rfl (by decide) v l.length (nv l) hown ⟨b, off, none⟩ k.length c (nv k) (nv_len k) hnews (nv_one _) (by omega) (by unfold maxLen; omega) hsz hB w.heap.size rfl
    refine ⟨_, w', hr, ?_, (Below.refl _ _).grown h3 hB (fun j hj => (World.ownsRow.lt (show w.ownsRow B 39 5 v l.length (nv l) from hown) _ hj).1), fun g hg hne => h3.block g hg (fun e => hne e.symm)⟩
    unfold OwnN
    rw [nv_app, List.length_append]
    exact h2
/-- The same, at a step of a region that draws its order. -/
theorem step_nodes (w : World) {ops : Array Oper} {o : Oper} {a : Act} {K : Act → World → Prop} {Q : Exit → Act → World → Prop} {E : Prop} (hgd : o.guard = none) (s x : Operand)
    (ho : o.op = .call { callee := .builtin .append, args := #[s, x], argTypes := #[33, 33] }) (hty : o.type = 33) (B : Nat) (l k : List Nd) (ad : Option Addr) (c : Nat) (v : Value)
    (hs : a.eval s = v) (hx : a.eval x = .slice ad k.length c) (hown : OwnN w B v l) (hk : NdRow w ad k) (hB : B ≤ w.heap.size) (hsz : (l.length + k.length) * 48 ≤ 140737488355328)
    (h : ∀ v' w', OwnN w' B v' (l ++ k) → Below B w w' → (∀ g, g < w.heap.size → v.ownBlock ≠ some g → w'.heap[g]? = w.heap[g]?) → K (a.put o.dst v') w') :
    if Region.wanted o (yielded ops a.tmps) = true then Oper.wp Try.prog o a w K Q else E := by
  obtain ⟨v', w', hr, h1, h2, h3⟩ := appendN_run w B v l k ad c hown hk hB hsz
  have hw : Region.wanted o (yielded ops a.tmps) = true := by simp [Region.wanted, hgd]
  rw [if_pos hw]
  unfold Oper.wp execOp
  simp only [ho, hty, resolve, invoke, builtin, Sem.run_bind, Sem.run_pure, Result.andThen_ok, List.map_toArray, List.map_cons, List.map_nil, hs, hx, hr]
  exact h v' w' h1 h2 h3
theorem ownN_empty (w : World) (B : Nat) (hB : B ≤ w.heap.size) : OwnN (w.alloc (.cells #[] 39)) B (.slice (some ⟨w.heap.size, 0, none⟩) 0 0) [] :=
  ⟨rfl, Or.inr ⟨w.heap.size, 0, #[], rfl, hB, heap_alloc_last w _, Nat.le_refl _, by unfold maxLen; omega, rfl, rfl⟩⟩
theorem row_one {W : World} {g : Nat} {e : Nd} (h : W.heap[g]? = some (.cells #[.int .i64 e.dep, .int .i64 e.cls, .bool e.made, .int .i64 e.tag, .string e.body] 39 (0, 0))) : NdRow W (some ⟨g, 0, none⟩) [e] := fun i hi => by
  have hi0 : i = 0 := by simpa using hi
  subst hi0
  have hb : Box W g 39 #[.int .i64 e.dep, .int .i64 e.cls, .bool e.made, .int .i64 e.tag, .string e.body] := h
  refine ⟨g, 0, rfl, ?_, ?_, ?_, ?_, ?_⟩
  · exact (at_of hb (j := 0) rfl).1
  · exact (at_of hb (j := 1) rfl).1
  · exact (at_of hb (j := 2) rfl).1
  · exact (at_of hb (j := 3) rfl).1
  · exact (at_of hb (j := 4) rfl).1
theorem row_isN {w : World} {a : Option Addr} {n : Nat} {D C T : Nat → Int} {M : Nat → Bool} {B : Nat → ByteArray} {k : List Nd} (h : NdRow w a (nodesL n D C T M B ++ k)) : IsNodes w a n D C T M B := fun i hi => by
  obtain ⟨b, off, e, h0, h1, h2, h3, h4⟩ := h i (by rw [List.length_append, nodesL_len]; omega)
  have hx : (nodesL n D C T M B ++ k)[i]'(by rw [List.length_append, nodesL_len]; omega) = ⟨D i, C i, M i, T i, B i⟩ := by
    rw [List.getElem_append_left (by rw [nodesL_len]; exact hi)]
    simp [nodesL]
  rw [hx] at h0 h1 h2 h3 h4
  exact ⟨b, off, e, h0, h1, h2, h3, h4⟩
set_option maxRecDepth 100000 in
set_option maxHeartbeats 2000000 in
theorem sameNodes_q (l : List Nd) (a b : Option Addr) (c d : Nat) (w : World) (hl : l.length ≤ 140737488355328) (h1 : NdRow w a l) (h2 : NdRow w b l) :
    Calls Try.prog 15 #[.slice a l.length c, .slice b l.length d] w fun r w' => r = .returned (.bool true) ∧ ∃ q, w' = w.drewN q := by
  have hl' : Hid (l.length ≤ 140737488355328) := hl
  clear hl
  go_enter Try.func15, Try.ntmps15
  go_wp2_with fail
  go_loopw [5] (fun iv wr => ∃ (k q : Nat), k ≤ l.length ∧ iv = .int .i64 (k : Int) ∧ Hid (wr = w.drewN q)) (fun iv _ => l.length - (intOf iv).toNat)
  case atStart => exact ⟨0, 0, Nat.zero_le _, rfl, rfl⟩
  case round =>
    obtain ⟨k, q, hk, rfl, hw⟩ := hrel
    have k0 : (0 : Int) ≤ (k : Int) := Int.natCast_nonneg _
    by_cases hlt : k < l.length
    · have k1 : (k : Int) < (l.length : Int) := Int.ofNat_lt.2 hlt
      obtain ⟨b1, o1, rfl, x0, x1, x2, x3, x4⟩ := h1 k hlt
      obtain ⟨b2, o2, rfl, y0, y1, y2, y3, y4⟩ := h2 k hlt
      have hE : ∀ a, wr.cell? a = w.cell? a := fun a => by rw [hw.out]; rfl
      rw [← hE] at x0 x1 x2 x3 x4 y0 y1 y2 y3 y4
      have hnq := fun W => ne_node l[k].dep l[k].cls l[k].made l[k].tag l[k].body W
      have hkw : Hid (wrap64 ((k : Int) + 1) = (k : Int) + 1) := wr_up' k (by have := hl'.out; omega)
      have hlt' : Hid (k < l.length) := hlt
      generalize l[k] = X at *
      clear hE h1 h2 hlt hk
      go_wp2_with fail
      go_quiet (fail)
      go_wp2_with fail
      have hkw2 := hkw.out
      refine ⟨⟨k + 1, _, hlt'.out, congrArg (Value.int .i64) (by rw [hkw2]; omega), by unfold Hid; rw [hw.out, World.drewN_drewN]⟩, ?_⟩
      rw [hkw2]
      have := hlt'.out
      simp [intOf]
      omega
    · obtain rfl : k = l.length := by omega
      have k1 : ¬ (l.length : Int) < (l.length : Int) := by omega
      clear h1 h2
      go_wp2_with fail
      go_ret
      exact ⟨rfl, q, hw.out⟩
theorem eq_node (d c : Int) (m : Bool) (t : Int) (s : ByteArray) (W : World) :
    (binOp .eql 39 (.agg #[.int .i64 d, .int .i64 c, .bool m, .int .i64 t, .string s]) (.agg #[.int .i64 d, .int .i64 c, .bool m, .int .i64 t, .string s])).run Try.prog W = .ok (.bool true) W := by
  have hS : Try.prog.underlying 39 = some (.struct (Try.prog.fieldsOf 39)) := by kernel_rfl
  have hp : Try.prog.stoodInHeld 39 = false := by kernel_rfl
  rw [run_eql_struct, run_equalIn_struct _ _ _ _ _ hS hp]
  simp only [Program.fieldsOf, Try.underlying39]
  simp [Op.eqFields, go_sem]
end Go.Proofs.Ytgfonnjblbpogaa
