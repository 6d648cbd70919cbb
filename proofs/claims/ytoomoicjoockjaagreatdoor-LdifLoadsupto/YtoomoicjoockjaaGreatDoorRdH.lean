import Derived.Test.YtoomoicjoockjaaGreatDoorRdG
import Derived.Test.YtoomoicjoockjaaGreatDoorRgN
namespace Go.Proofs.YtoomoicjoockjaaGreatDoor
namespace Rd
open Go.RowKit Go.Shelf
open LdMath
open GSeM (SeqM StM range_m)
open Lr (PR RC pf chg okD dnB ChgTab GOwn GRow pV pV_len Kd PX RX rV rV_len append_gen)
attribute [local go_sem] Oper.semAt_some
set_option linter.unusedVariables false
set_option maxRecDepth 100000

theorem read_any (s : ByteArray) (w : World) : Calls Tryz.prog 8 #[.string s] w fun e w' => e = .returned (.func (.func 11) #[] #[.pointer (some ⟨w.heap.size, 0, none⟩)]) ∧ w' = w.alloc (.cells #[.string s] 9) := by
  go_enter Tryz.func8, Tryz.ntmps8
  go_wp2
  go_ret
  exact ⟨rfl, rfl⟩
/-- A record's pairs, of the call's own. -/
def PO (B : Nat) (r : RX) (W : World) : Prop := GOwn 50 2 pV W B (.slice r.2.2.1 r.2.2.2.2.length r.2.2.2.1) r.2.2.2.2
/-- Two boxes of results, of the list that grows. -/
def Bxs (r0 : Nat) (W : World) : Prop := W.heap[r0]? = some (.cells #[.slice none 0 0] 22 (0, 0)) ∧ W.heap[r0 + 1]? = some (.cells #[.int .i64 0] 23 (0, 0)) ∧ W.heap[r0 + 2]? = some (.cells #[.int .i64 0] 3 (0, 0))
/-- Between two rounds. -/
def LdI (r0 : Nat) (w : World) (pre : List X) (W : World) : Prop :=
  Bxs r0 W ∧ (∃ v, W.heap[r0 + 3]? = some (.cells #[v] 22 (0, 0)) ∧ GOwn 34 3 rV W (r0 + 4) v (pre.map (·.1)) ∧ (∃ a n c, v = .slice a n c)) ∧ (∀ x ∈ pre, PO r0 x.1 W) ∧ (∀ x ∈ pre, x.2.1 = 0) ∧ Below r0 w W ∧ r0 = w.heap.size ∧ pre.length ≤ 4194310
/-- Where a round has told a fault. -/
def LdX (r0 : Nat) (w : World) (c : Code) (pre : List X) (W : World) : Prop :=
  c = .ret ∧ (∃ pre0 x, pre = pre0 ++ [x] ∧ x.2.1 ≠ 0 ∧ W.heap[r0]? = some (.cells #[.slice none 0 0] 22 (0, 0)) ∧ W.heap[r0 + 1]? = some (.cells #[.int .i64 (x.2.1 : Int)] 23 (0, 0)) ∧ W.heap[r0 + 2]? = some (.cells #[.int .i64 (x.2.2 : Int)] 3 (0, 0))) ∧ Below r0 w W ∧ r0 = w.heap.size
theorem own_typ {B k n : Nat} {e : TypeId} {v : Value} {xs : List Value} {w w' : World} (h : w.ownsRow B e k v n xs) (hs : ∀ (g : Nat) (cs : Array Value), w.heap[g]? = some (.cells cs e (0, 0)) → w'.heap[g]? = some (.cells cs e (0, 0))) : w'.ownsRow B e k v n xs :=
  Lr.owns_same h (fun g hg => by
    obtain ⟨cs, hcs⟩ := owns_typ h hg
    rw [hs g cs hcs, hcs])
/-- It stands where cells of no box of the iterator's turn. -/
theorem ldI_same {r0 : Nat} {w W W' : World} {pre : List X} (h : LdI r0 w pre W) (hs : ∀ (g : Nat) (cs : Array Value) (t : TypeId), t ≠ 65 → t ≠ 36 → W.heap[g]? = some (.cells cs t (0, 0)) → W'.heap[g]? = some (.cells cs t (0, 0))) (hb : Below r0 W W') : LdI r0 w pre W' := by
  obtain ⟨⟨h1, h2, h3⟩, ⟨v, h4, h5, h6⟩, h7, h8, h9, h10, h11⟩ := h
  exact ⟨⟨hs _ _ _ (by decide) (by decide) h1, hs _ _ _ (by decide) (by decide) h2, hs _ _ _ (by decide) (by decide) h3⟩, ⟨v, hs _ _ _ (by decide) (by decide) h4, own_typ h5 (fun g cs hg => hs g cs _ (by decide) (by decide) hg), h6⟩, fun x hx => own_typ (h7 x hx) (fun g cs hg => hs g cs _ (by decide) (by decide) hg), h8, h9.trans hb, h10, h11⟩
theorem ldX_same {r0 : Nat} {w W W' : World} {c : Code} {pre : List X} (h : LdX r0 w c pre W) (hs : ∀ (g : Nat) (cs : Array Value) (t : TypeId), t ≠ 65 → t ≠ 36 → W.heap[g]? = some (.cells cs t (0, 0)) → W'.heap[g]? = some (.cells cs t (0, 0))) (hb : Below r0 W W') : LdX r0 w c pre W' := by
  obtain ⟨h0, ⟨p0, x, e1, e2, h1, h2, h3⟩, h9, h10⟩ := h
  exact ⟨h0, ⟨p0, x, e1, e2, hs _ _ _ (by decide) (by decide) h1, hs _ _ _ (by decide) (by decide) h2, hs _ _ _ (by decide) (by decide) h3⟩, h9.trans hb, h10⟩
theorem own_cells {B : Nat} {W W' : World} {row : Option Nat} (hg : W.grownBy W' row) (hr : ∀ r, row = some r → B ≤ r ∧ ∃ o : Obj, W.heap[r]? = some o ∧ o.isCells = false) (g : Nat) (cs : Array Value) (t : TypeId) (h : W.heap[g]? = some (.cells cs t (0, 0))) : W'.heap[g]? = some (.cells cs t (0, 0)) := by
  rw [hg.block g (Array.getElem?_eq_some_iff.1 h).1 (fun e => ?_)]
  · exact h
  · obtain ⟨_, o, ho, hc⟩ := hr g e.symm
    rw [h] at ho
    injection ho with ho
    subst ho
    cases hc
theorem own_low {B C : Nat} {W W' : World} {row : Option Nat} (hg : W.grownBy W' row) (hr : ∀ r, row = some r → B ≤ r ∧ ∃ o : Obj, W.heap[r]? = some o ∧ o.isCells = false) (hC : C ≤ B) (hW : C ≤ W.heap.size) : Below C W W' :=
  (Below.refl C W).grown hg hW (fun k e => by have := (hr k e).1; omega)
theorem ldI_own (r0 B : Nat) (w : World) (hB : r0 + 4 ≤ B) : OwnFrom B (LdI r0 w) := fun pre W W' row h hg hr => ldI_same h (fun g cs t _ _ hk => own_cells hg hr g cs t hk) (own_low hg hr (by omega) (by have h1 := h.1.1; have := (Array.getElem?_eq_some_iff.1 h1).1; omega))
theorem ldX_own (r0 B : Nat) (w : World) (hB : r0 + 4 ≤ B) (c : Code) : OwnFrom B (LdX r0 w c) := fun pre W W' row h hg hr => ldX_same h (fun g cs t _ _ hk => own_cells hg hr g cs t hk) (own_low hg hr (by omega) (by obtain ⟨_, ⟨_, _, _, _, h1, _⟩, _⟩ := h; have := (Array.getElem?_eq_some_iff.1 h1).1; omega))
theorem mv_cells {B0 : Nat} {W W' : World} (h : Mv B0 W W') (g : Nat) (cs : Array Value) (t : TypeId) (h1 : t ≠ 65) (h2 : t ≠ 36) (hk : W.heap[g]? = some (.cells cs t (0, 0))) : W'.heap[g]? = some (.cells cs t (0, 0)) :=
  h.2.2 g _ hk (.inr (fun ⟨cs', hc⟩ => by
    rcases hc with hc | hc
    · injection hc with _ hc _; exact h1 hc
    · injection hc with _ hc _; exact h2 hc))
theorem mv_low {B0 C : Nat} {W W' : World} (h : Mv B0 W W') (hC : C ≤ B0) (hW : C ≤ W.heap.size) : Below C W W' := ⟨h.1.1, h.1.2.1, h.1.2.2, h.2.1, fun k hk => by
  have hl : k < W.heap.size := by omega
  have h1 : W.heap[k]? = some W.heap[k] := Array.getElem?_eq_getElem hl
  rw [h.2.2 k _ h1 (.inl (by omega)), h1]⟩
theorem ldI_mv (r0 B0 : Nat) (w : World) (hB : r0 ≤ B0) : StM (Mv B0) (LdI r0 w) := fun pre W W' h hm => ldI_same h (fun g cs t h1 h2 hk => mv_cells hm g cs t h1 h2 hk) (mv_low hm hB (by have h1 := h.1.1; have := (Array.getElem?_eq_some_iff.1 h1).1; omega))
theorem ldX_mv (r0 B0 : Nat) (w : World) (hB : r0 ≤ B0) (c : Code) : StM (Mv B0) (LdX r0 w c) := fun pre W W' h hm => ldX_same h (fun g cs t h1 h2 hk => mv_cells hm g cs t h1 h2 hk) (mv_low hm hB (by obtain ⟨_, ⟨_, _, _, _, h1, _⟩, _⟩ := h; have := (Array.getElem?_eq_some_iff.1 h1).1; omega))
theorem kp_put0 {w : World} (hw : 2 < w.heap.size ∧ 1 < w.heap.size) (W : World) (l : Nat) (o o' : Obj) (hl : w.heap.size ≤ l) (ho : W.heap[l]? = some o) (hc : o.isCells = false) (_ : o.isWalk = false) : Kp W (W.putObj l o') := by
  have hg := grownBy_putObj' W l o'
  refine ⟨hg.size, fun k hk => World.putObj_heap_other (by rcases hk with rfl | rfl <;> omega), fun k cs t _ hk => ?_⟩
  rw [World.putObj_heap_other (fun e => ?_)]
  · exact hk
  · subst e
    rw [hk] at ho
    injection ho with ho
    subst ho
    cases hc
/-- What a round has in hand. -/
def LdA (r0 : Nat) (w : World) (s : ByteArray) (pre : List X) (x : X) (B : Nat) (a' : Act) (W : World) : Prop :=
  ∃ q, a' = { tmps := #[.string s, undef, .pointer (some ⟨r0, 0, none⟩), .pointer (some ⟨r0 + 1, 0, none⟩), .pointer (some ⟨r0 + 1 + 1, 0, none⟩), .pointer (some ⟨r0 + 1 + 1 + 1, 0, none⟩), .pointer (some ⟨q, 0, none⟩), .pointer (some ⟨q + 1, 0, none⟩), .string s, .func (.func 11) #[] #[.pointer (some ⟨r0 + 1 + 1 + 1 + 1, 0, none⟩)], .agg #[.int .i64 x.1.1, .string (S x.1.2.1), .slice x.1.2.2.1 x.1.2.2.2.2.length x.1.2.2.2.1], .agg #[.int .i64 (x.2.1 : Int), .int .i64 (x.2.2 : Int)], undef, undef, undef, undef, undef, undef, undef, undef, undef, undef, undef, undef], defers := [] } ∧
    W.heap[q]? = some (.cells #[.int .i64 x.1.1, .string (S x.1.2.1), .slice x.1.2.2.1 x.1.2.2.2.2.length x.1.2.2.2.1] 34 (0, 0)) ∧ W.heap[q + 1]? = some (.cells #[.int .i64 (x.2.1 : Int), .int .i64 (x.2.2 : Int)] 36 (0, 0)) ∧ LdI r0 w pre W ∧ GX x B W ∧ (r0 ≤ B ∧ r0 + 5 ≤ q)
theorem ldA_own (r0 C : Nat) (w : World) (s : ByteArray) (hC : r0 + 4 ≤ C) (pre : List X) (x : X) (B : Nat) (a' : Act) : OwnFrom C (fun (_ : Unit) W => LdA r0 w s pre x B a' W) := by
  rintro _ W W' row ⟨q, h1, h2, h3, h4, h5, h6⟩ hg hr
  exact ⟨q, h1, own_cells hg hr _ _ _ h2, own_cells hg hr _ _ _ h3, ldI_own r0 C w hC _ _ _ _ h4 hg hr, own_typ h5 (fun g cs hk => own_cells hg hr g cs _ hk), h6⟩

/-- An append whose run is known, within a fence. -/
theorem wpListIn_append_run {F : Fence} {n : Nat} {P : Program} (w : World) {ops : Array Oper} {rest : List Oper} {o : Oper} {a : Act} {Q : Exit → Act → World → Prop} (hg : o.guard = none) (s x : Operand) (t tn : TypeId) (hop : o.op = Op.call { callee := Callee.builtin Builtin.append, args := #[s, x], argTypes := #[t, tn] })
    (vs vx : Value) (hs : a.eval s = vs) (hx : a.eval x = vx) (v' : Value) (w' : World) (hr : (Builtin.append_ #[t, tn] o.type #[vs, vx]).run P w = .ok v' w') (h : wpListIn F n P ops Q rest (a.put o.dst v') w') : wpListIn F n P ops Q (o :: rest) a w := by
  refine wpListIn_plain hg fun K hK' => ?_
  unfold Oper.wpIn
  refine ⟨?_, ?_⟩
  · simp [Oper.about, hop, resolve, Target.leads, Sem.run_pure]
  · rw [Oper.semAt_plain F _ _ (by rw [hop]; intro c hc'; cases hc')]
    simp [execOp, hop, resolve, invoke, builtin, hs, hx, hr, Result.andThen]
    exact hK' _ _ h
/-- What Load answers. -/
def LdIs (B : Nat) (rs : List Rc) (v : Value) (Rs : List RX) (W : World) : Prop := Rs.map (fun r => (r.1, r.2.1, r.2.2.2.2)) = rs.map (fun r => ((r.1 : Int), r.2.1, r.2.2)) ∧ GOwn 34 3 rV W B v Rs ∧ ∀ r ∈ Rs, PO B r W
/-- Three results that lie in boxes. -/
theorem results_l {fn : Func} {p q t : Tmp} (h : fn.results = #[.cell p 22, .cell q 23, .cell t 3]) (tmps : Array Value) (w : World) (g f d : Nat) (v a b : Value) (hp : tmps.getD p undef = .pointer (some ⟨g, 0, none⟩)) (hq : tmps.getD q undef = .pointer (some ⟨f, 0, none⟩)) (ht : tmps.getD t undef = .pointer (some ⟨d, 0, none⟩))
    (hg : w.heap[g]? = some (.cells #[v] 22 (0, 0))) (hf : w.heap[f]? = some (.cells #[a] 23 (0, 0))) (hd : w.heap[d]? = some (.cells #[b] 3 (0, 0))) : (results fn tmps).run Tryz.prog w = .ok (.tuple #[v, a, b]) w := by
  have h1 := ld_one w g v 22 _ _ hg Tryz.underlying22 rfl
  have h2 := ld_one w f a 23 _ _ hf Tryz.underlying23 rfl
  have h3 := ld_one w d b 3 _ _ hd Tryz.underlying3 rfl
  have hp' : tmps[p]?.getD undef = .pointer (some ⟨g, 0, none⟩) := by simpa using hp
  have hq' : tmps[q]?.getD undef = .pointer (some ⟨f, 0, none⟩) := by simpa using hq
  have ht' : tmps[t]?.getD undef = .pointer (some ⟨d, 0, none⟩) := by simpa using ht
  simp [results, h, hp', hq', ht', asAddr, h1, h2, h3]
theorem rdT_zero {b : List UInt8} (h : (rdT b).2.1 = 0) : (rdT b).2.2 = 0 := by
  cases hf : ferr [] (phys b) with
  | some p =>
    obtain ⟨e, n⟩ := p
    rw [rdT_bad hf] at h
    have := ferr_val _ _ _ hf
    simp only at this h
    omega
  | none =>
    rw [rdT_ok hf] at h ⊢
    exact val_nz _ _ _ h
/-- All are records: there was no fault. -/
theorem els_all {R : List Rc × Nat × Nat} {xs : List X} (h : xs.map sy = els R) (hz : ∀ x ∈ xs, x.2.1 = 0) : R.2.1 = 0 ∧ (xs.map (·.1)).map (fun r => (r.1, r.2.1, r.2.2.2.2)) = R.1.map (fun r => ((r.1 : Int), r.2.1, r.2.2)) := by
  have h0 : R.2.1 = 0 := by
    by_cases h0 : R.2.1 = 0
    · exact h0
    · rw [els_bad h0] at h
      have hm : (((0, [], []), R.2) : Sx) ∈ xs.map sy := by rw [h]; simp
      obtain ⟨x, hx, he⟩ := List.mem_map.1 hm
      have h1 := hz x hx
      have h2 : x.2 = R.2 := congrArg Prod.snd he
      rw [h2] at h1
      exact h1
  refine ⟨h0, ?_⟩
  rw [els_zero h0] at h
  have h1 := congrArg (List.map Prod.fst) h
  rw [List.map_map, List.map_map] at h1
  rw [List.map_map]
  exact h1
theorem els_last {R : List Rc × Nat × Nat} {pre : List X} {x : X} (h : (pre ++ [x]).map sy <+: els R) (hx : x.2.1 ≠ 0) : R.2 = x.2 ∧ R.2.1 ≠ 0 := by
  have hm : sy x ∈ els R := h.subset (by simp)
  unfold els at hm
  rcases List.mem_append.1 hm with hm | hm
  · obtain ⟨r, _, he⟩ := List.mem_map.1 hm
    have h2 : ((0, 0) : Nat × Nat) = x.2 := congrArg Prod.snd he
    exact absurd (by rw [← h2]) hx
  · by_cases h0 : R.2.1 = 0
    · rw [if_pos h0] at hm
      simp at hm
    · rw [if_neg h0] at hm
      have he : sy x = ((0, [], []), R.2) := by simpa using hm
      exact ⟨(congrArg Prod.snd he).symm, h0⟩
/-- A round that takes a record. -/
theorem ld_round {r0 : Nat} {w W : World} {pre : List X} {x : X} {B : Nat} (hI : LdI r0 w pre W) (hG : GX x B W) (hB : r0 ≤ B) (hx : x.2.1 = 0) (hw : 2 < r0 ∧ 1 < r0) (hl : pre.length < 4194310) (C : Nat) :
    ∃ a n c a4 m4 c4 w3, W.cell? ⟨r0 + 1 + 1 + 1, 0, none⟩ = some (.slice a n c) ∧
      (Builtin.append_ #[22, 22] 22 #[.slice a n c, .slice (some ⟨W.heap.size, 0, none⟩) 1 1]).run Tryz.prog (W.alloc (.cells #[.int .i64 x.1.1, .string (S x.1.2.1), .slice x.1.2.2.1 x.1.2.2.2.2.length x.1.2.2.2.1] 34)) = .ok (.slice a4 m4 c4) w3 ∧
      (w3.cell? ⟨r0 + 1 + 1 + 1, 0, none⟩ = some (.slice a n c) ∧ w3.frozen? ⟨r0 + 1 + 1 + 1, 0, none⟩ = false) ∧
      (KeepsFrom C W (w3.setCell ⟨r0 + 1 + 1 + 1, 0, none⟩ (.slice a4 m4 c4)) ∧ Kp W (w3.setCell ⟨r0 + 1 + 1 + 1, 0, none⟩ (.slice a4 m4 c4)) ∧ LdI r0 w (pre ++ [x]) (w3.setCell ⟨r0 + 1 + 1 + 1, 0, none⟩ (.slice a4 m4 c4))) := by
  obtain ⟨⟨h1, h2, h3⟩, ⟨v, h4, h5, ⟨a, n, c, rfl⟩⟩, h7, h8, h9, h10, h11⟩ := hI
  have h4s : r0 + 3 < W.heap.size := (Array.getElem?_eq_some_iff.1 h4).1
  obtain ⟨Wa, hWa⟩ : ∃ Wa, W.alloc (.cells #[.int .i64 x.1.1, .string (S x.1.2.1), .slice x.1.2.2.1 x.1.2.2.2.2.length x.1.2.2.2.1] 34) = Wa := ⟨_, rfl⟩
  have ba : Below W.heap.size W Wa := by rw [← hWa]; exact (Below.refl _ _).alloc (Nat.le_refl _) _
  have hrow : GRow 3 rV Wa (some ⟨W.heap.size, 0, none⟩) [x.1] := by rw [← hWa]; exact GRow.one rV W 34 x.1
  obtain ⟨v4, w3, e4, o4, g4, b4⟩ := append_gen KDr Wa (r0 + 4) (.slice a n c) (pre.map (·.1)) [x.1] (some ⟨W.heap.size, 0, none⟩) 1 1 (h5.below ba) hrow rfl (by have := ba.size; omega) (by simp; omega)
  obtain ⟨a4, c4, hv4, _, _, _⟩ := o4.row rV_len
  subst hv4
  obtain ⟨m4, hm4⟩ : ∃ m4, (pre.map (·.1) ++ [x.1]).length = m4 := ⟨_, rfl⟩
  rw [hm4] at e4 o4
  have hvt : ∀ k, Value.ownBlock (.slice a n c) = some k → ∃ cs, W.heap[k]? = some (.cells cs 34 (0, 0)) ∧ r0 + 4 ≤ k := fun k hk => by
    obtain ⟨cs, hcs⟩ := owns_typ (show W.ownsRow (r0 + 4) 34 3 _ _ _ from h5) hk
    exact ⟨cs, hcs, ((show W.ownsRow (r0 + 4) 34 3 _ _ _ from h5).lt k hk).1⟩
  have o3 : ∀ k, k < W.heap.size → Value.ownBlock (.slice a n c) ≠ some k → w3.heap[k]? = W.heap[k]? := fun k hk hn => by
    rw [g4.block k (Nat.lt_of_lt_of_le hk ba.size) (fun e => hn e.symm), ba.block k hk]
  have oth : ∀ k, k < W.heap.size → k ≠ r0 + 3 → Value.ownBlock (.slice a n c) ≠ some k → (w3.setCell ⟨r0 + 1 + 1 + 1, 0, none⟩ (.slice a4 m4 c4)).heap[k]? = W.heap[k]? := fun k hk hn hv => by
    rw [Below.heap_setCell _ _ _ _ (show k ≠ r0 + 1 + 1 + 1 from hn), o3 k hk hv]
  have typ : ∀ (k : Nat) (cs : Array Value) (t : TypeId), W.heap[k]? = some (.cells cs t (0, 0)) → t ≠ 22 → t ≠ 34 → (w3.setCell ⟨r0 + 1 + 1 + 1, 0, none⟩ (.slice a4 m4 c4)).heap[k]? = some (.cells cs t (0, 0)) := fun k cs t hk n1 n2 => by
    rw [oth k (Array.getElem?_eq_some_iff.1 hk).1 (fun e => ?_) (fun e => ?_), hk]
    · subst e
      rw [h4] at hk
      injection hk with hk
      injection hk with _ hk _
      exact n1 hk.symm
    · obtain ⟨cs', hc, _⟩ := hvt k e
      rw [hc] at hk
      injection hk with hk
      injection hk with _ hk _
      exact n2 hk.symm
  have low : ∀ k, k < r0 + 3 → (w3.setCell ⟨r0 + 1 + 1 + 1, 0, none⟩ (.slice a4 m4 c4)).heap[k]? = W.heap[k]? := fun k hk => oth k (by omega) (by omega) (fun e => by obtain ⟨_, _, h⟩ := hvt k e; omega)
  have h43 : w3.heap[r0 + 3]? = some (.cells #[.slice a n c] 22 (0, 0)) := by
    rw [o3 _ h4s (fun e => by obtain ⟨_, _, h⟩ := hvt _ e; omega)]
    exact h4
  have hsz : W.heap.size ≤ (w3.setCell ⟨r0 + 1 + 1 + 1, 0, none⟩ (.slice a4 m4 c4)).heap.size := by rw [World.size_setCell]; exact Nat.le_trans ba.size b4.size
  refine ⟨a, n, c, a4, m4, c4, w3, row1 h4, by rw [hWa]; exact e4, ⟨row1 h43, Go.frozen_of_row _ _ _ _ _ h43⟩, ⟨hsz, fun k o _ hk ho => ?_⟩, ⟨hsz, fun k hk => low k (by rcases hk with rfl | rfl <;> omega), fun k cs t ht hk => typ k cs t hk (by rcases ht with rfl | rfl | rfl <;> decide) (by rcases ht with rfl | rfl | rfl <;> decide)⟩, ⟨(low _ (by omega)).trans h1, (low _ (by omega)).trans h2, (low _ (by omega)).trans h3⟩, ⟨.slice a4 m4 c4, ?_, ?_, a4, m4, c4, rfl⟩, fun y hy => ?_, fun y hy => ?_, ?_, h10, by simp; omega⟩
  · rw [oth k (Array.getElem?_eq_some_iff.1 hk).1 (fun e => ?_) (fun e => ?_), hk]
    · subst e
      rw [h4] at hk
      injection hk with hk
      subst hk
      cases ho
    · obtain ⟨cs', hc, _⟩ := hvt k e
      rw [hc] at hk
      injection hk with hk
      subst hk
      cases ho
  · exact Go.heap_setCell_same w3 (r0 + 3) 0 _ _ (.slice a4 m4 c4) h43
  · rw [List.map_append]
    refine Lr.owns_same o4 (fun g hg => Below.heap_setCell _ _ _ _ (fun e => ?_))
    have e' : g = r0 + 3 := e
    have := ((show w3.ownsRow (r0 + 4) 34 3 _ _ _ from o4).lt g hg).1
    omega
  · rcases List.mem_append.1 hy with hy | hy
    · exact own_typ (h7 y hy) (fun g cs hk => typ g cs _ hk (by decide) (by decide))
    · rw [List.mem_singleton] at hy
      subst hy
      exact own_typ (Lr.owns_base hG hB) (fun g cs hk => typ g cs _ hk (by decide) (by decide))
  · rcases List.mem_append.1 hy with hy | hy
    · exact h8 y hy
    · rw [List.mem_singleton] at hy
      subst hy
      exact hx
  · exact ((h9.trans (ba.mono (by omega))).trans (b4.mono (by omega))).setCell (p := ⟨r0 + 1 + 1 + 1, 0, none⟩) (by show r0 ≤ r0 + 1 + 1 + 1; omega) _
/-- A round that tells a fault. -/
theorem ld_fault {r0 : Nat} {w W : World} {pre : List X} {x : X} (hI : LdI r0 w pre W) (hx : x.2.1 ≠ 0) (hw : 2 < r0 ∧ 1 < r0) (C : Nat) :
    KeepsFrom C W (((W.drew.setCell ⟨r0, 0, none⟩ (.slice none 0 0)).setCell ⟨r0 + 1, 0, none⟩ (.int .i64 (x.2.1 : Int))).setCell ⟨r0 + 1 + 1, 0, none⟩ (.int .i64 (x.2.2 : Int))) ∧ Kp W (((W.drew.setCell ⟨r0, 0, none⟩ (.slice none 0 0)).setCell ⟨r0 + 1, 0, none⟩ (.int .i64 (x.2.1 : Int))).setCell ⟨r0 + 1 + 1, 0, none⟩ (.int .i64 (x.2.2 : Int))) ∧ LdX r0 w .ret (pre ++ [x]) (((W.drew.setCell ⟨r0, 0, none⟩ (.slice none 0 0)).setCell ⟨r0 + 1, 0, none⟩ (.int .i64 (x.2.1 : Int))).setCell ⟨r0 + 1 + 1, 0, none⟩ (.int .i64 (x.2.2 : Int))) := by
  obtain ⟨⟨h1, h2, h3⟩, ⟨v, h4, h5, h6⟩, h7, h8, h9, h10, h11⟩ := hI
  have oth : ∀ k, k ≠ r0 → k ≠ r0 + 1 → k ≠ r0 + 2 → (((W.drew.setCell ⟨r0, 0, none⟩ (.slice none 0 0)).setCell ⟨r0 + 1, 0, none⟩ (.int .i64 (x.2.1 : Int))).setCell ⟨r0 + 1 + 1, 0, none⟩ (.int .i64 (x.2.2 : Int))).heap[k]? = W.heap[k]? := fun k n1 n2 n3 => by
    rw [Below.heap_setCell _ _ _ _ (show k ≠ r0 + 1 + 1 from n3), Below.heap_setCell _ _ _ _ n2, Below.heap_setCell _ _ _ _ n1]
    rfl
  have h1d : W.drew.heap[r0]? = some (.cells #[.slice none 0 0] 22 (0, 0)) := h1
  have h2d : W.drew.heap[r0 + 1]? = some (.cells #[.int .i64 0] 23 (0, 0)) := h2
  have h3d : W.drew.heap[r0 + 2]? = some (.cells #[.int .i64 0] 3 (0, 0)) := h3
  have hsz : W.heap.size ≤ (((W.drew.setCell ⟨r0, 0, none⟩ (.slice none 0 0)).setCell ⟨r0 + 1, 0, none⟩ (.int .i64 (x.2.1 : Int))).setCell ⟨r0 + 1 + 1, 0, none⟩ (.int .i64 (x.2.2 : Int))).heap.size := by simp
  have typ : ∀ (k : Nat) (o : Obj), W.heap[k]? = some o → (∀ cs t fz, o = .cells cs t fz → t ≠ 22 ∧ t ≠ 23 ∧ t ≠ 3) → (((W.drew.setCell ⟨r0, 0, none⟩ (.slice none 0 0)).setCell ⟨r0 + 1, 0, none⟩ (.int .i64 (x.2.1 : Int))).setCell ⟨r0 + 1 + 1, 0, none⟩ (.int .i64 (x.2.2 : Int))).heap[k]? = some o := fun k o hk hn => by
    rw [oth k (fun e => ?_) (fun e => ?_) (fun e => ?_), hk]
    · subst e; rw [h1] at hk; injection hk with hk; exact (hn _ _ _ hk.symm).1 rfl
    · subst e; rw [h2] at hk; injection hk with hk; exact (hn _ _ _ hk.symm).2.1 rfl
    · subst e; rw [h3] at hk; injection hk with hk; exact (hn _ _ _ hk.symm).2.2 rfl
  refine ⟨⟨hsz, fun k o _ hk ho => typ k o hk (fun cs t fz e => by subst e; cases ho)⟩, ⟨hsz, fun k hk => oth k (by rcases hk with rfl | rfl <;> omega) (by rcases hk with rfl | rfl <;> omega) (by rcases hk with rfl | rfl <;> omega), fun k cs t ht hk => typ k _ hk (fun cs' t' fz e => by injection e with _ e _; subst e; rcases ht with rfl | rfl | rfl <;> decide)⟩, rfl, ⟨pre, x, rfl, hx, ?_, ?_, ?_⟩, ?_, h10⟩
  · rw [Below.heap_setCell _ _ _ _ (show r0 ≠ r0 + 1 + 1 by omega), Below.heap_setCell _ _ _ _ (show r0 ≠ r0 + 1 by omega)]
    exact Go.heap_setCell_same _ _ 0 _ _ _ h1d
  · rw [Below.heap_setCell _ _ _ _ (show r0 + 1 ≠ r0 + 1 + 1 by omega)]
    exact Go.heap_setCell_same _ _ 0 _ _ _ ((Below.heap_setCell _ _ _ _ (show r0 + 1 ≠ r0 by omega)).trans h2d)
  · exact Go.heap_setCell_same _ _ 0 _ _ _ ((Below.heap_setCell _ _ _ _ (show r0 + 1 + 1 ≠ r0 + 1 by omega)).trans ((Below.heap_setCell _ _ _ _ (show r0 + 1 + 1 ≠ r0 by omega)).trans h3d))
  · exact (((h9.drew).setCell (p := ⟨r0, 0, none⟩) (Nat.le_refl _) _).setCell (p := ⟨r0 + 1, 0, none⟩) (by show r0 ≤ r0 + 1; omega) _).setCell (p := ⟨r0 + 1 + 1, 0, none⟩) (by show r0 ≤ r0 + 1 + 1; omega) _

set_option maxRecDepth 1000000 in
set_option maxHeartbeats 8000000 in
theorem load_any (s : ByteArray) (hs : s.size ≤ 4194304) (w : World) (hWt : WTab w) (hCt : ChgTab w) :
    Calls Tryz.prog 4 #[.string s] w fun e w' => ∃ v Rs, e = .returned (.tuple #[v, .int .i64 ((rdT s.data.toList).2.1 : Int), .int .i64 ((rdT s.data.toList).2.2 : Int)]) ∧ LdIs w.heap.size (ldR s.data.toList) v Rs w' ∧ Below w.heap.size w w' := by
  refine (callsIn_wide (n := 5)).1 ?_
  refine callsIn_of_wp_marks Tryz.func4 rfl trivial ?_ rfl
  simp only [Tryz.ntmps4, List.size_toArray, List.length_cons, List.length_nil, Nat.reduceAdd, Nat.reduceSub, Array.replicate_succ, Array.replicate_zero, List.push_toArray, List.append_toArray, List.nil_append, List.cons_append]
  gi_wp2_with (refine ⟨trivial, ?_⟩; gi_at_call 8; refine (callsIn_wide.2 (read_any _ _)).mono ?_; rintro e w' ⟨rfl, rfl⟩)
  obtain ⟨W0, hW0⟩ : ∃ W0, (((((w.alloc (.cells #[.slice none 0 0] 22)).alloc (.cells #[.int .i64 0] 23)).alloc (.cells #[.int .i64 0] 3)).alloc (.cells #[.slice none 0 0] 22)).alloc (.cells #[.string s] 9)) = W0 := ⟨_, rfl⟩
  rw [hW0]
  have hsz : W0.heap.size = w.heap.size + 5 := by rw [← hW0]; simp
  have HB0 : Below w.heap.size w W0 := by rw [← hW0]; exact (((((Below.refl _ _).alloc (Nat.le_refl _) _).alloc (by simp) _).alloc (by simp <;> omega) _).alloc (by simp <;> omega) _).alloc (by simp <;> omega) _
  have hSb : W0.heap[w.heap.size + 1 + 1 + 1 + 1]? = some (.cells #[.string s] 9 (0, 0)) := by
    rw [← hW0]
    have h := heap_alloc_last ((((w.alloc (.cells #[.slice none 0 0] 22)).alloc (.cells #[.int .i64 0] 23)).alloc (.cells #[.int .i64 0] 3)).alloc (.cells #[.slice none 0 0] 22)) (.cells #[.string s] 9)
    simp only [World.size_alloc] at h
    exact h
  have hU0 : LdI w.heap.size w [] W0 := by
    refine ⟨⟨?_, ?_, ?_⟩, ⟨.slice none 0 0, ?_, GOwn.nil _ _ _ _ _, none, 0, 0, rfl⟩, fun x hx => by simp at hx, fun x hx => by simp at hx, HB0, rfl, by simp⟩
    · rw [← hW0, Below.heap_alloc _ _ _ (by simp <;> omega), Below.heap_alloc _ _ _ (by simp <;> omega), Below.heap_alloc _ _ _ (by simp <;> omega), Below.heap_alloc _ _ _ (by simp <;> omega)]
      exact heap_alloc_last w _
    · rw [← hW0, Below.heap_alloc _ _ _ (by simp <;> omega), Below.heap_alloc _ _ _ (by simp <;> omega), Below.heap_alloc _ _ _ (by simp <;> omega)]
      have h := heap_alloc_last (w.alloc (.cells #[.slice none 0 0] 22)) (.cells #[.int .i64 0] 23)
      simp only [World.size_alloc] at h
      exact h
    · rw [← hW0, Below.heap_alloc _ _ _ (by simp <;> omega), Below.heap_alloc _ _ _ (by simp <;> omega)]
      have h := heap_alloc_last ((w.alloc (.cells #[.slice none 0 0] 22)).alloc (.cells #[.int .i64 0] 23)) (.cells #[.int .i64 0] 3)
      simp only [World.size_alloc] at h
      exact h
    · rw [← hW0, Below.heap_alloc _ _ _ (by simp <;> omega)]
      have h := heap_alloc_last (((w.alloc (.cells #[.slice none 0 0] 22)).alloc (.cells #[.int .i64 0] 23)).alloc (.cells #[.int .i64 0] 3)) (.cells #[.slice none 0 0] 22)
      simp only [World.size_alloc] at h
      exact h
  clear hW0
  have hTb : 2 < w.heap.size ∧ 1 < w.heap.size := ⟨wtab_lt hWt, ctab_lt hCt⟩
  have hseq := read_seq 4 (by omega) s hs (w.heap.size + 1 + 1 + 1 + 1) W0 hSb (hWt.below HB0) (hCt.below HB0)
  obtain ⟨r0, hr0⟩ : ∃ r0, w.heap.size = r0 := ⟨_, rfl⟩
  rw [hr0] at hsz hU0 HB0 hSb hTb hseq ⊢
  refine range_m rfl (by omega) (gf := 11) (lb := #[.pointer (some ⟨r0 + 1 + 1 + 1 + 1, 0, none⟩)]) rfl trivial (enters_of Tryz.func11 (by kernel_rfl) rfl)
    hseq Kp.trans (kp_put0 (by omega)) (Below.refl _ _) (fun _ => rfl)
    (LdI r0 w) (LdX r0 w) (ldI_own r0 _ w (by omega)) (ldX_own r0 _ w (by omega)) (ldI_mv r0 _ w (by omega)) (ldX_mv r0 _ w (by omega)) (fun A B h k o hk ho => h.2.2 k o hk (.inr (fun ⟨cs, hc⟩ => by rcases hc with rfl | rfl <;> cases ho))) hU0
    (LdA r0 w s) (fun pre x B a' => ldA_own r0 _ w s (by omega) pre x B a') ?assign ?body ?done ?stop
  case assign =>
    rintro l pre x Wa W K hIa hmv hI hG hSp hlen hwl hK
    have hK' : Hid (∀ a' W', KeepsFrom W0.heap.size W W' → Kp W W' → LdA r0 w s pre x Wa.heap.size a' W' → K a' W') := hK
    obtain ⟨W2, hW2⟩ : ∃ W2, (W.alloc (.cells #[.int .i64 x.1.1, .string (S x.1.2.1), .slice x.1.2.2.1 x.1.2.2.2.2.length x.1.2.2.2.1] 34)).alloc (.cells #[.int .i64 (x.2.1 : Int), .int .i64 (x.2.2 : Int)] 36) = W2 := ⟨_, rfl⟩
    have b2 : Below W.heap.size W W2 := by rw [← hW2]; exact ((Below.refl _ _).alloc (Nat.le_refl _) _).alloc (by simp) _
    have k1 : W2.heap[W.heap.size]? = some (.cells #[.int .i64 x.1.1, .string (S x.1.2.1), .slice x.1.2.2.1 x.1.2.2.2.2.length x.1.2.2.2.1] 34 (0, 0)) := by rw [← hW2, Below.heap_alloc _ _ _ (by simp)]; exact heap_alloc_last W _
    have k2 : W2.heap[W.heap.size + 1]? = some (.cells #[.int .i64 (x.2.1 : Int), .int .i64 (x.2.2 : Int)] 36 (0, 0)) := by
      rw [← hW2]
      have h := heap_alloc_last (W.alloc (.cells #[.int .i64 x.1.1, .string (S x.1.2.1), .slice x.1.2.2.1 x.1.2.2.2.2.length x.1.2.2.2.1] 34)) (.cells #[.int .i64 (x.2.1 : Int), .int .i64 (x.2.2 : Int)] 36)
      simp only [World.size_alloc] at h
      exact h
    have hWs : W0.heap.size ≤ W.heap.size := Nat.le_trans hwl hmv.2.1
    have hfin : Hid (KeepsFrom W0.heap.size W W2 ∧ Kp W W2 ∧ (W2.heap[W.heap.size]? = some (.cells #[.int .i64 x.1.1, .string (S x.1.2.1), .slice x.1.2.2.1 x.1.2.2.2.2.length x.1.2.2.2.1] 34 (0, 0)) ∧ W2.heap[W.heap.size + 1]? = some (.cells #[.int .i64 (x.2.1 : Int), .int .i64 (x.2.2 : Int)] 36 (0, 0)) ∧ LdI r0 w pre W2 ∧ GX x Wa.heap.size W2 ∧ (r0 ≤ Wa.heap.size ∧ r0 + 5 ≤ W.heap.size))) := by
      have st : ∀ (k : Nat) (o : Obj), W.heap[k]? = some o → W2.heap[k]? = some o := fun k o hk => (b2.block k (Array.getElem?_eq_some_iff.1 hk).1).trans hk
      refine ⟨⟨b2.size, fun k o _ hk _ => st k o hk⟩, ⟨b2.size, fun k hk => b2.block k (by rcases hk with rfl | rfl <;> omega), fun k cs t _ hk => st k _ hk⟩, k1, k2, ldI_same hI (fun g cs t _ _ hk => st g _ hk) (b2.mono (by omega)), own_typ hG (fun g cs hk => st g _ hk), by omega, by omega⟩
    clear hK hIa hmv hI hG hSp hlen hwl b2 k1 k2 hWs hseq hU0 HB0 hSb hTb
    dsimp only [encX]
    gi_wp2
    obtain ⟨f1, f2, f3⟩ := hfin.out
    exact hK'.out _ _ f1 f2 ⟨W.heap.size, rfl, f3⟩
  case body =>
    rintro l pre x B a' W hl hlr ⟨q, rfl, hq1, hq2, hI, hG, hB⟩ hlen
    have e0 : W.cell? ⟨q + 1, 0, none⟩ = some (.int .i64 (x.2.1 : Int)) := by rw [cell_of_row _ _ _ _ _ _ hq2]; rfl
    have e1 : W.cell? ⟨q + 1, 1, none⟩ = some (.int .i64 (x.2.2 : Int)) := by rw [cell_of_row _ _ _ _ _ _ hq2]; rfl
    have d0 : W.cell? ⟨q, 0, none⟩ = some (.int .i64 x.1.1) := by rw [cell_of_row _ _ _ _ _ _ hq1]; rfl
    have d1 : W.cell? ⟨q, 1, none⟩ = some (.string (S x.1.2.1)) := by rw [cell_of_row _ _ _ _ _ _ hq1]; rfl
    have d2 : W.cell? ⟨q, 2, none⟩ = some (.slice x.1.2.2.1 x.1.2.2.2.2.length x.1.2.2.2.1) := by rw [cell_of_row _ _ _ _ _ _ hq1]; rfl
    by_cases hx : x.2.1 = 0
    · obtain ⟨a, n, c, a4, m4, c4, w3, cR, e4, ⟨c3, f3⟩, hfin⟩ := ld_round hI hG hB.1 hx hTb hlen W0.heap.size
      have hfin' : Hid _ := hfin
      have e0' : W.cell? ⟨q + 1, 0, none⟩ = some (.int .i64 0) := by rw [e0, hx]; rfl
      generalize S x.1.2.1 = N at *
      generalize x.1.2.2.2.2.length = pn at *
      generalize (x.2.1 : Int) = z1 at *
      generalize (x.2.2 : Int) = z2 at *
      clear hfin hI hG hB hx hlen hl hlr hq1 hq2 hseq hU0 HB0 hSb hTb e0
      gi_wp2_with (gi_at_builtin; refine wpListIn_append_run _ rfl _ _ _ _ rfl _ _ rfl rfl _ _ e4 ?_; clear e4)
      exact hfin'.out
    · have hfin := ld_fault (x := x) hI hx hTb W0.heap.size
      have hfin' : Hid _ := hfin
      have hb0 : ((x.2.1 : Int) != 0) = true := by simp only [bne_iff_ne, ne_eq]; omega
      have hbx : Hid (Bxs r0 W) := hI.1
      have hqr : Hid (r0 + 5 ≤ q) := hB.2
      generalize S x.1.2.1 = N at *
      generalize x.1.2.2.2.2.length = pn at *
      generalize (x.2.1 : Int) = z1 at *
      generalize (x.2.2 : Int) = z2 at *
      clear hfin hI hG hB hx hlen hl hlr hq1 hq2 hseq hU0 HB0 hSb hTb
      gi_wp2_with fail
      obtain ⟨h1, h2, h3⟩ := hbx.out
      have u0 : W.drew.cell? ⟨r0, 0, none⟩ = some (.slice none 0 0) := row1 h1
      have u1 : W.drew.cell? ⟨r0 + 1, 0, none⟩ = some (.int .i64 0) := row1 h2
      have u2 : W.drew.cell? ⟨r0 + 1 + 1, 0, none⟩ = some (.int .i64 0) := row1 h3
      have y0 : W.drew.frozen? ⟨r0, 0, none⟩ = false := Go.frozen_of_row W _ 0 _ _ h1
      have y1 : W.drew.frozen? ⟨r0 + 1, 0, none⟩ = false := Go.frozen_of_row W _ 0 _ _ h2
      have y2 : W.drew.frozen? ⟨r0 + 1 + 1, 0, none⟩ = false := Go.frozen_of_row W _ 0 _ _ h3
      have u1' : W.cell? ⟨r0 + 1, 0, none⟩ = some (.int .i64 0) := row1 h2
      have u2' : W.cell? ⟨r0 + 1 + 1, 0, none⟩ = some (.int .i64 0) := row1 h3
      have y1' : W.frozen? ⟨r0 + 1, 0, none⟩ = false := Go.frozen_of_row W _ 0 _ _ h2
      have y2' : W.frozen? ⟨r0 + 1 + 1, 0, none⟩ = false := Go.frozen_of_row W _ 0 _ _ h3
      clear h1 h2 h3
      have hS0 : W.drew.cell? ⟨q + 1, 0, none⟩ = some (.int .i64 z1) ∧ W.drew.cell? ⟨q + 1, 1, none⟩ = some (.int .i64 z2) := ⟨e0, e1⟩
      have nq : ∀ {V : World} {b j : Nat} {y : Value} {k : Nat}, b < q → (V.setCell ⟨b, j, none⟩ y).cell? ⟨q + 1, k, none⟩ = V.cell? ⟨q + 1, k, none⟩ := fun {V b j y k} h => World.cell?_setCell_other V _ _ _ (by intro hh; injection hh with h2; omega)
      have hr1 : r0 < q := by have := hqr.out; omega
      have hr2 : r0 + 1 < q := by have := hqr.out; omega
      have hr3 : r0 + 1 + 1 < q := by have := hqr.out; omega
      have v1 : (W.drew.setCell ⟨r0, 0, none⟩ (.slice none 0 0)).cell? ⟨r0 + 1, 0, none⟩ = some (.int .i64 0) := (World.cell?_setCell_other _ _ _ _ (by intro hh; injection hh with h2; omega)).trans u1
      have z1f : (W.drew.setCell ⟨r0, 0, none⟩ (.slice none 0 0)).frozen? ⟨r0 + 1, 0, none⟩ = false := by rw [World.frozen?_setCell]; exact y1
      have v2 : ((W.drew.setCell ⟨r0, 0, none⟩ (.slice none 0 0)).setCell ⟨r0 + 1, 0, none⟩ (.int .i64 z1)).cell? ⟨r0 + 1 + 1, 0, none⟩ = some (.int .i64 0) := (World.cell?_setCell_other _ _ _ _ (by intro hh; injection hh with h2; omega)).trans ((World.cell?_setCell_other _ _ _ _ (by intro hh; injection hh with h2; omega)).trans u2)
      have z2f : ((W.drew.setCell ⟨r0, 0, none⟩ (.slice none 0 0)).setCell ⟨r0 + 1, 0, none⟩ (.int .i64 z1)).frozen? ⟨r0 + 1 + 1, 0, none⟩ = false := by rw [World.frozen?_setCell, World.frozen?_setCell]; exact y2
      have hS1 : (W.drew.setCell ⟨r0, 0, none⟩ (.slice none 0 0)).cell? ⟨q + 1, 0, none⟩ = some (.int .i64 z1) ∧ (W.drew.setCell ⟨r0, 0, none⟩ (.slice none 0 0)).cell? ⟨q + 1, 1, none⟩ = some (.int .i64 z2) := ⟨(nq hr1).trans hS0.1, (nq hr1).trans hS0.2⟩
      have hS2 : ((W.drew.setCell ⟨r0, 0, none⟩ (.slice none 0 0)).setCell ⟨r0 + 1, 0, none⟩ (.int .i64 z1)).cell? ⟨q + 1, 0, none⟩ = some (.int .i64 z1) ∧ ((W.drew.setCell ⟨r0, 0, none⟩ (.slice none 0 0)).setCell ⟨r0 + 1, 0, none⟩ (.int .i64 z1)).cell? ⟨q + 1, 1, none⟩ = some (.int .i64 z2) := ⟨(nq hr2).trans hS1.1, (nq hr2).trans hS1.2⟩
      have hS3 : (((W.drew.setCell ⟨r0, 0, none⟩ (.slice none 0 0)).setCell ⟨r0 + 1, 0, none⟩ (.int .i64 z1)).setCell ⟨r0 + 1 + 1, 0, none⟩ (.int .i64 z2)).cell? ⟨q + 1, 0, none⟩ = some (.int .i64 z1) ∧ (((W.drew.setCell ⟨r0, 0, none⟩ (.slice none 0 0)).setCell ⟨r0 + 1, 0, none⟩ (.int .i64 z1)).setCell ⟨r0 + 1 + 1, 0, none⟩ (.int .i64 z2)).cell? ⟨q + 1, 1, none⟩ = some (.int .i64 z2) := ⟨(nq hr3).trans hS2.1, (nq hr3).trans hS2.2⟩
      refine RgN.n_region (fun _ => true) (fun V => V.cell? ⟨q + 1, 0, none⟩ = some (.int .i64 z1) ∧ V.cell? ⟨q + 1, 1, none⟩ = some (.int .i64 z2)) (by kernel_rfl) (by kernel_rfl) ?_
      refine RgN.n_take 0 ?va0 (by simp only [List.getElem?_toArray, List.getElem?_cons_zero]; exact rfl) (by kernel_rfl) (by kernel_rfl) (by kernel_rfl) (RgN.safe_all _ _ _) (by rfl) hS0 ?ya0 ?ra0
      case ya0 =>
        intro w' hS
        obtain ⟨h0, h1⟩ := hS
        go_simp
        try with_reducible rfl
      case ra0 =>
      simp only [Act.put, List.setIfInBounds_toArray, List.set_cons_zero, List.set_cons_succ]
      refine RgN.n_take 1 ?va1 (by simp only [List.getElem?_toArray, List.getElem?_cons_zero, List.getElem?_cons_succ]; exact rfl) (by kernel_rfl) (by kernel_rfl) (by kernel_rfl) (RgN.safe_all _ _ _) (by rfl) hS0 ?ya1 ?ra1
      case ya1 =>
        intro w' hS
        obtain ⟨h0, h1⟩ := hS
        go_simp
        try with_reducible rfl
      case ra1 =>
      simp only [Act.put, List.setIfInBounds_toArray, List.set_cons_zero, List.set_cons_succ]
      refine RgN.n_take 2 ?va2 (by simp only [List.getElem?_toArray, List.getElem?_cons_zero, List.getElem?_cons_succ]; exact rfl) (by kernel_rfl) (by kernel_rfl) (by kernel_rfl) (RgN.safe_all _ _ _) (by rfl) hS0 ?ya2 ?ra2
      case ya2 =>
        intro w' hS
        obtain ⟨h0, h1⟩ := hS
        go_simp
        try with_reducible rfl
      case ra2 =>
      simp only [Act.put, List.setIfInBounds_toArray, List.set_cons_zero, List.set_cons_succ]
      refine RgN.n_take 3 ?va3 (by simp only [List.getElem?_toArray, List.getElem?_cons_zero, List.getElem?_cons_succ]; exact rfl) (by kernel_rfl) (by kernel_rfl) (by kernel_rfl) (RgN.safe_all _ _ _) (by rfl) hS0 ?ya3 ?ra3
      case ya3 =>
        intro w' hS
        obtain ⟨h0, h1⟩ := hS
        go_simp
        try with_reducible rfl
      case ra3 =>
      simp only [Act.put, List.setIfInBounds_toArray, List.set_cons_zero, List.set_cons_succ]
      refine RgN.n_one 4 (by kernel_rfl) (by simp only [List.getElem?_toArray, List.getElem?_cons_zero, List.getElem?_cons_succ]; exact rfl) (fun K hK => ?_)
      go_simp
      refine hK.out _ _ (fun _ => hS1) ?_
      clear hK K
      try simp only [Act.put, List.setIfInBounds_toArray, List.set_cons_zero, List.set_cons_succ]
      refine RgN.n_one 5 (by kernel_rfl) (by simp only [List.getElem?_toArray, List.getElem?_cons_zero, List.getElem?_cons_succ]; exact rfl) (fun K hK => ?_)
      go_simp
      refine hK.out _ _ (fun _ => hS2) ?_
      clear hK K
      try simp only [Act.put, List.setIfInBounds_toArray, List.set_cons_zero, List.set_cons_succ]
      refine RgN.n_one 6 (by kernel_rfl) (by simp only [List.getElem?_toArray, List.getElem?_cons_zero, List.getElem?_cons_succ]; exact rfl) (fun K hK => ?_)
      go_simp
      refine hK.out _ _ (fun _ => hS3) ?_
      clear hK K
      try simp only [Act.put, List.setIfInBounds_toArray, List.set_cons_zero, List.set_cons_succ]
      refine RgN.n_done (by kernel_rfl) ?_ _
      gi_wp2
      exact hfin'.out
  case done =>
    rintro D xs W hD hS ⟨⟨h1, h2, h3⟩, ⟨v, h4, h5, ⟨va, vn, vc, rfl⟩⟩, h7, h8, h9, h10, h11⟩ hK
    obtain ⟨x1, x2⟩ := els_all hS h8
    have x3 := rdT_zero x1
    have c0 := row1 h4
    have c1 := row1 h1
    have c2 := row1 h2
    have c3 := row1 h3
    have f1 := Go.frozen_of_row W r0 0 _ _ h1
    have f2 := Go.frozen_of_row W (r0 + 1) 0 _ _ h2
    have f3 := Go.frozen_of_row W (r0 + 1 + 1) 0 _ _ h3
    obtain ⟨W2, hW2⟩ : ∃ W2, ((W.setCell ⟨r0, 0, none⟩ (.slice va vn vc)).setCell ⟨r0 + 1, 0, none⟩ (.int .i64 0)).setCell ⟨r0 + 1 + 1, 0, none⟩ (.int .i64 0) = W2 := ⟨_, rfl⟩
    have oth : ∀ k, k ≠ r0 → k ≠ r0 + 1 → k ≠ r0 + 2 → W2.heap[k]? = W.heap[k]? := fun k n1 n2 n3 => by
      rw [← hW2, Below.heap_setCell _ _ _ _ (show k ≠ r0 + 1 + 1 from n3), Below.heap_setCell _ _ _ _ n2, Below.heap_setCell _ _ _ _ n1]
    have q1 : W2.heap[r0]? = some (.cells #[.slice va vn vc] 22 (0, 0)) := by
      rw [← hW2, Below.heap_setCell _ _ _ _ (show r0 ≠ r0 + 1 + 1 by omega), Below.heap_setCell _ _ _ _ (show r0 ≠ r0 + 1 by omega)]
      exact Go.heap_setCell_same _ _ 0 _ _ _ h1
    have q2 : W2.heap[r0 + 1]? = some (.cells #[.int .i64 0] 23 (0, 0)) := by
      rw [← hW2, Below.heap_setCell _ _ _ _ (show r0 + 1 ≠ r0 + 1 + 1 by omega)]
      exact Go.heap_setCell_same _ _ 0 _ _ _ ((Below.heap_setCell _ _ _ _ (show r0 + 1 ≠ r0 by omega)).trans h2)
    have q3 : W2.heap[r0 + 2]? = some (.cells #[.int .i64 0] 3 (0, 0)) := by
      rw [← hW2]
      exact Go.heap_setCell_same _ _ 0 _ _ _ ((Below.heap_setCell _ _ _ _ (show r0 + 1 + 1 ≠ r0 + 1 by omega)).trans ((Below.heap_setCell _ _ _ _ (show r0 + 1 + 1 ≠ r0 by omega)).trans h3))
    have hB2 : Below r0 w W2 := by rw [← hW2]; exact ((h9.setCell (p := ⟨r0, 0, none⟩) (Nat.le_refl _) _).setCell (p := ⟨r0 + 1, 0, none⟩) (by show r0 ≤ r0 + 1; omega) _).setCell (p := ⟨r0 + 1 + 1, 0, none⟩) (by show r0 ≤ r0 + 1 + 1; omega) _
    have hK2 : W2.heap[D]? = some (.deferred (some [])) := (oth D (by omega) (by omega) (by omega)).trans hK
    have typ : ∀ (k : Nat) (cs : Array Value) (t : TypeId), t ≠ 22 → t ≠ 23 → t ≠ 3 → W.heap[k]? = some (.cells cs t (0, 0)) → (W2.putObj D (.deferred none)).heap[k]? = some (.cells cs t (0, 0)) := fun k cs t n1 n2 n3 hk => by
      rw [World.putObj_heap_other (fun e => ?_), oth k (fun e => ?_) (fun e => ?_) (fun e => ?_), hk]
      · subst e; rw [h1] at hk; injection hk with hk; injection hk with _ hk _; exact n1 hk.symm
      · subst e; rw [h2] at hk; injection hk with hk; injection hk with _ hk _; exact n2 hk.symm
      · subst e; rw [h3] at hk; injection hk with hk; injection hk with _ hk _; exact n3 hk.symm
      · subst e; rw [hK] at hk; injection hk with hk; cases hk
    have hg := grownBy_putObj' W2 D (.deferred none)
    have pn : ∀ k, k ≠ D → (W2.putObj D (.deferred none)).heap[k]? = W2.heap[k]? := fun k hk => World.putObj_heap_other (fun e => hk e)
    have hfin : Hid (∃ v Rs, Ending.returned (.tuple #[.slice va vn vc, .int .i64 0, .int .i64 0]) = Ending.returned (.tuple #[v, .int .i64 ((rdT s.data.toList).2.1 : Int), .int .i64 ((rdT s.data.toList).2.2 : Int)]) ∧ LdIs w.heap.size (ldR s.data.toList) v Rs (W2.putObj D (.deferred none)) ∧ Below w.heap.size w (W2.putObj D (.deferred none))) := by
      unfold Hid
      rw [hr0, x1, x3]
      refine ⟨_, xs.map (·.1), rfl, ⟨?_, ?_, fun r hr => ?_⟩, hB2.grown hg (by have := hB2.size; omega) (fun k e => by injection e with e; omega)⟩
      · rw [x2]
        unfold ldR
        rw [if_pos x1]
      · exact own_typ (Lr.owns_base h5 (by omega)) (fun g cs hk => typ g cs _ (by decide) (by decide) (by decide) hk)
      · obtain ⟨x, hx, rfl⟩ := List.mem_map.1 hr
        exact own_typ (h7 x hx) (fun g cs hk => typ g cs _ (by decide) (by decide) (by decide) hk)
    have hR : Hid (((W2.putObj D (.deferred none)).heap[r0]? = some (.cells #[.slice va vn vc] 22 (0, 0))) ∧ ((W2.putObj D (.deferred none)).heap[r0 + 1]? = some (.cells #[.int .i64 0] 23 (0, 0))) ∧ ((W2.putObj D (.deferred none)).heap[r0 + 1 + 1]? = some (.cells #[.int .i64 0] 3 (0, 0)))) := ⟨(pn _ (by omega)).trans q1, (pn _ (by omega)).trans q2, (pn _ (by omega)).trans q3⟩
    have hK2' : Hid (W2.heap[D]? = some (.deferred (some []))) := hK2
    clear h1 h2 h3 h4 h5 h7 h8 h9 h10 h11 hK x1 x2 x3 hS oth q1 q2 q3 hB2 hK2 typ hg pn hseq hU0 HB0 hSb hTb hD
    gi_wp2
    refine ⟨by simp, .inl ⟨_, _, rfl, run_takeDeferred hK2'.out, ?_⟩⟩
    refine ⟨_, results_l rfl _ _ r0 (r0 + 1) (r0 + 1 + 1) _ _ _ rfl rfl rfl hR.out.1 hR.out.2.1 hR.out.2.2, ?_⟩
    exact hfin.out
  case stop =>
    rintro D c pre W hD hSp ⟨rfl, ⟨pre0, x, rfl, hx, h1, h2, h3⟩, h9, h10⟩ hK
    obtain ⟨x1, x2⟩ := els_last hSp hx
    have hg := grownBy_putObj' W D (.deferred none)
    have pn : ∀ k, k ≠ D → (W.putObj D (.deferred none)).heap[k]? = W.heap[k]? := fun k hk => World.putObj_heap_other (fun e => hk e)
    have hfin : Hid (∃ v Rs, Ending.returned (.tuple #[.slice none 0 0, .int .i64 (x.2.1 : Int), .int .i64 (x.2.2 : Int)]) = Ending.returned (.tuple #[v, .int .i64 ((rdT s.data.toList).2.1 : Int), .int .i64 ((rdT s.data.toList).2.2 : Int)]) ∧ LdIs w.heap.size (ldR s.data.toList) v Rs (W.putObj D (.deferred none)) ∧ Below w.heap.size w (W.putObj D (.deferred none))) := by
      unfold Hid
      rw [hr0, x1]
      refine ⟨_, [], rfl, ⟨?_, GOwn.nil _ _ _ _ _, fun r hr => by simp at hr⟩, h9.grown hg (by have := h9.size; omega) (fun k e => by injection e with e; omega)⟩
      unfold ldR
      rw [if_neg x2]
      rfl
    have hR : Hid (((W.putObj D (.deferred none)).heap[r0]? = some (.cells #[.slice none 0 0] 22 (0, 0))) ∧ ((W.putObj D (.deferred none)).heap[r0 + 1]? = some (.cells #[.int .i64 (x.2.1 : Int)] 23 (0, 0))) ∧ ((W.putObj D (.deferred none)).heap[r0 + 1 + 1]? = some (.cells #[.int .i64 (x.2.2 : Int)] 3 (0, 0)))) := ⟨(pn _ (by omega)).trans h1, (pn _ (by omega)).trans h2, (pn _ (by omega)).trans h3⟩
    have hK' : Hid (W.heap[D]? = some (.deferred (some []))) := hK
    clear h1 h2 h3 h9 h10 hK x1 x2 hSp hx hg pn hseq hU0 HB0 hSb hTb hD
    gi_wp2
    refine ⟨by simp, .inl ⟨_, _, rfl, run_takeDeferred hK'.out, ?_⟩⟩
    refine ⟨_, results_l rfl _ _ r0 (r0 + 1) (r0 + 1 + 1) _ _ _ rfl rfl rfl hR.out.1 hR.out.2.1 hR.out.2.2, ?_⟩
    exact hfin.out
end Rd
end Go.Proofs.YtoomoicjoockjaaGreatDoor
