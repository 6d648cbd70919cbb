import Derived.Test.YtndbbfbihheagaaDoorAtRowX
import Derived.Test.YtndbbfbihheagaaDoorAtFind
import Derived.Test.YtndbbfbihheagaaDoorAkB
import Derived.Test.YtndbbfbihheagaaDoorGSeq
namespace Go.Proofs.YtndbbfbihheagaaDoor
namespace Ty
open Go.RowKit Go.Shelf
open GSeq (StB SeqG)
set_option linter.unusedVariables false
attribute [local go_sem] Oper.semAt_some

/-- A row's other names. -/
def aliL (i : Fin 62) : List (List UInt8) := if (rowL i).2.1.toList = [] then [] else [(rowL i).2.1.data.toList]
/-- A row with its list. -/
abbrev El := Fin 62 × Value
abbrev agT (x : El) : Value := .agg #[.string (rowL x.1).1, x.2, .string (rowL x.1).2.2, .string (supN x.1), .int .i64 (SYN.getD x.1.1 0), .int .i64 (USG.getD x.1.1 0)]
abbrev encT (x : El) : Array Value := #[.int .i64 (x.1.1 : Int), agT x]
def GT (x : El) (B : Nat) (W : World) : Prop := OwnS W B x.2 (aliL x.1) ∧ ((rowL x.1).2.1.toList = [] → x.2 = .slice none 0 0)
theorem rowX_gt {W : World} {B : Nat} {i : Fin 62} {v : Value} (h : RowX W B i v) : ∃ al, v = agT (i, al) ∧ GT (i, al) B W := by
  obtain ⟨al, rfl, h⟩ := h
  refine ⟨al, rfl, ?_⟩
  unfold GT aliL
  rcases h with ⟨he, rfl⟩ | ⟨he, g, c, hB, rfl, rfl, hg⟩
  · simp only [he, if_true]
    exact ⟨ownS_nil _ _, fun _ => trivial⟩
  · simp only [he, if_false]
    exact ⟨⟨rfl, Or.inr ⟨g, 1, _, rfl, hB, hg, Nat.le_refl _, by unfold maxLen; omega, rfl, by simp [sv, S_of]⟩⟩, fun h => h.elim⟩
/-- What a round leaves alone. -/
def KpB (n₀ : Nat) (W W' : World) : Prop := Below n₀ W W' ∧ ∀ (k : Nat) cs fz, W.heap[k]? = some (Obj.cells cs 43 fz) → W'.heap[k]? = some (Obj.cells cs 43 fz)
theorem KpB.trans {n₀ : Nat} {A B C : World} (h : KpB n₀ A B) (k : KpB n₀ B C) : KpB n₀ A C := ⟨h.1.trans k.1, fun i cs fz hi => k.2 i cs fz (h.2 i cs fz hi)⟩
theorem KpB.refl (n₀ : Nat) (A : World) : KpB n₀ A A := ⟨Below.refl _ _, fun _ _ _ h => h⟩
theorem KpB.below {n₀ : Nat} {A B : World} (hn : n₀ ≤ A.heap.size) (h : Below A.heap.size A B) : KpB n₀ A B := ⟨h.mono hn, fun k cs fz hk => (h.block k (Array.getElem?_eq_some_iff.1 hk).1).trans hk⟩
theorem KpB.book {n₀ : Nat} {w : World} (hn : n₀ ≤ w.heap.size) (W : World) (l : Nat) (o o' : Obj) (hl : w.heap.size ≤ l) (h : W.heap[l]? = some o) (hc : o.isCells = false) (hw : o.isWalk = false) : KpB n₀ W (W.putObj l o') := by
  refine ⟨belowK_b (w := w) hn W l o o' hl h hc hw, fun k cs fz hk => ?_⟩
  have hne : l ≠ k := by
    intro e
    subst e
    rw [hk] at h
    injection h with h
    subst h
    cases hc
  exact (World.putObj_heap_other hne.symm).trans hk
theorem pre_up {pre : List El} {k : Nat} (h : pre.map Prod.fst = upF k) (hk : k < 62) (al : Value) : (pre ++ [((⟨k, hk⟩ : Fin 62), al)]).map Prod.fst = upF (k + 1) := by
  rw [List.map_append, h, upF_succ k hk]
  rfl
/-- A book of nothing asked. -/
theorem openBook_none (w : World) :
    Calls Tryd.prog 10 #[.slice none 0 0] w fun e w' => ∃ B cs, e = .returned (.agg cs) ∧ Hid (bkC B (upF 62) = cs) ∧ cs.size = 187 ∧ (∀ v ∈ cs.toList, v.oneCell' = true) ∧ Below w.heap.size w w' := by
  refine (openBook_any none 0 0 [] w (fun W x _ => Tryd.slices_Contains_string_empty none 0 x W)).mono ?_
  intro e w' h
  obtain ⟨B, h1, h2, h3, h4⟩ := h
  exact ⟨B, bkC B (upF 62), h2, rfl, bkC_size _ _, bkC_one _ _, h4⟩

set_option maxRecDepth 1000000 in
set_option maxHeartbeats 4000000 in
theorem types_stops (n : Nat) (hn : 1 ≤ n) (n₀ : Nat) (w : World) (hn0 : n₀ ≤ w.heap.size) (hT : ∀ W, Below n₀ w W → NumT3 W) :
    SeqG Fence.wide n Tryd.prog 9 #[] encT GT (KpB n₀) (fun xs => xs.map Prod.fst = upF 62) (fun pre => pre.map Prod.fst <+: upF 62) 62 w := fun l J Jx W hW hJ hJx hY h0 => by
  have hTW : Hid (∀ W', Below n₀ W W' → NumT3 W') := fun W' h => hT W' ((hW.mono hn0).trans h)
  have hn0W : Hid (n₀ ≤ W.heap.size) := Nat.le_trans hn0 hW.size
  have hJ' : Hid (StB J) := hJ
  have hJx' : Hid (StB Jx) := hJx
  have hY' : Hid (∀ pre x W0 W1, J pre W0 → Below W0.heap.size W0 W1 → GT x W0.heap.size W1 → ((pre ++ [x]).map Prod.fst <+: upF 62) → pre.length < 62 → YieldAt Fence.wide (n - 1) Tryd.prog l (encT x) W1 fun e W' =>
      (e = .returned (.bool true) ∧ J (pre ++ [x]) W' ∧ KpB n₀ W1 W') ∨ (e = .returned (.bool false) ∧ Jx (pre ++ [x]) W')) := hY
  clear hW hJ hJx hY hT hn0
  refine callsIn_of_wp Tryd.func9 rfl trivial ?_ rfl
  simp only [Tryd.ntmps9, List.size_toArray, List.length_cons, List.length_nil, Nat.reduceAdd, Nat.reduceSub, Array.replicate_succ, Array.replicate_zero, List.push_toArray, List.append_toArray, List.nil_append, List.cons_append]
  gi_wp2_with (refine ⟨trivial, ?_⟩; gi_at_call 10; refine (callsIn_wide.2 (openBook_none _)).mono ?_; rintro e W3 ⟨B, cs, rfl, hcs, hcz, hco, hB3⟩; have st := st_book W3 cs hcz hco)
  obtain ⟨W4, hW4⟩ : ∃ W4, W3.alloc (.cells cs 43) = W4 := ⟨_, rfl⟩
  rw [hW4]
  have hB4 : Below W.heap.size W W4 := by rw [← hW4]; exact hB3.alloc hB3.size _
  have hb4 : Book W4 W3.heap.size B := by
    unfold Book
    rw [← hW4, hcs.out]
    exact heap_alloc_last W3 _
  have hJ4 : J [] W4 := hJ'.out _ _ _ h0 hB4
  have hH4 : Hid (Below W.heap.size W W4 ∧ Book W4 W3.heap.size B) := ⟨hB4, hb4⟩
  clear st hW4 hcs hcz hco hB3 hB4 hb4 h0
  gi_loopw [5] (fun iv wr => ∃ (k : Nat) (pre : List El), k ≤ 62 ∧ iv = .int .i64 (k : Int) ∧ Hid (pre.map Prod.fst = upF k) ∧ J pre wr ∧ Hid (Book wr W3.heap.size B ∧ Below n₀ W wr)) (fun iv _ => 62 - (intOf iv).toNat)
  case atStart => exact ⟨0, [], Nat.zero_le _, rfl, rfl, hJ4, hH4.out.2, hH4.out.1.mono hn0W.out⟩
  case round =>
    obtain ⟨k, pre, hk, rfl, hpre, hJk, hBk⟩ := hrel
    clear hJ4 hH4
    by_cases hlt : k < 62
    · have k0 : (0 : Int) ≤ (k : Int) := Int.natCast_nonneg _
      have k1 : (k : Int) < 62 := by omega
      have hrow := bookRowX_any W3.heap.size B ⟨k, hlt⟩ wr hBk.out.1 (hTW.out wr hBk.out.2)
      have hrow' : Hid (Calls Tryd.prog 11 #[.pointer (some ⟨W3.heap.size, 0, none⟩), .int .i64 (k : Int)] wr fun e w' => ∃ v, e = .returned v ∧ RowX w' wr.heap.size ⟨k, hlt⟩ v ∧ Below wr.heap.size wr w') := hrow
      have hlt' : Hid (k < 62) := hlt
      have hpl : Hid (pre.length = k) := by
        have := congrArg List.length hpre.out
        rw [List.length_map, upF_len k hk] at this
        exact this
      clear hrow hk
      gi_wp2_with (refine ⟨trivial, ?_⟩; gi_at_call 11; refine (callsIn_wide.2 hrow'.out).mono ?_; rintro e W1 ⟨v, rfl, hX, hb1⟩; obtain ⟨al, rfl, hG⟩ := rowX_gt hX; have hnx := pre_up hpre.out hlt'.out al; obtain ⟨fn, tmps, assign, body, hy, hR⟩ := hY'.out pre (⟨k, hlt'.out⟩, al) wr W1 hJk hb1 hG (by rw [hnx]; exact upF_pre _) (by rw [hpl.out]; exact hlt'.out); dsimp only [encT, agT] at hy; have hnx' : Hid ((pre ++ [((⟨k, hlt'.out⟩ : Fin 62), al)]).map Prod.fst = upF (k + 1)) := hnx; have hb1' : Hid (Below wr.heap.size wr W1) := hb1; clear hX hG hnx hb1)
      refine hR.mono ?_
      rintro e W5 (⟨rfl, hJ5, hk5⟩ | ⟨rfl, hJx5⟩)
      · have hq : Hid (Book W5 W3.heap.size B ∧ Below n₀ W W5) := ⟨hk5.2 _ _ _ (hBk.out.1.below hb1'.out), hBk.out.2.trans ((hb1'.out.mono (Nat.le_trans hn0W.out hBk.out.2.size)).trans hk5.1)⟩
        clear hk5 hR hy hrow'
        gi_wp2
        go_roundw
        case rel => exact ⟨k + 1, _, hlt'.out, by simp, hnx', hJ5, hq⟩
        case measure => have := hlt'.out; simp [intOf]; omega
      · have hq : Hid (((pre ++ [((⟨k, hlt'.out⟩ : Fin 62), al)]).map Prod.fst <+: upF 62)) := by unfold Hid; rw [hnx'.out]; exact upF_pre _
        clear hR hy hrow'
        gi_wp2
        refine bodyPost_ret (results_none rfl _ _ _) rfl ?_
        exact ⟨⟨_, rfl⟩, .inr ⟨_, hq.out, hJx5⟩⟩
    · have hke : k = 62 := by omega
      subst hke
      clear hlt hk
      gi_wp2
      go_end0
      exact ⟨⟨_, rfl⟩, .inl ⟨_, hpre.out, hJk⟩⟩
/-- Types gives the iterator. -/
theorem types_any (w : World) : Calls Tryd.prog 5 #[] w fun e w' => e = .returned (.func (.func 9) #[] #[]) ∧ w' = w := by
  go_enter Tryd.func5, Tryd.ntmps5
  go_wp2_with fail
  go_ret
  exact ⟨rfl, rfl⟩
end Ty
end Go.Proofs.YtndbbfbihheagaaDoor
