import Derived.Test.YtndbbfbihheagaaDoorTyR
namespace Go.Proofs.YtndbbfbihheagaaDoor
namespace Ty
open Go.RowKit
set_option linter.unusedVariables false
set_option maxRecDepth 100000

/-- A row's cells. -/
def tC (x : El) : List Value := [.string (rowL x.1).1, x.2, .string (rowL x.1).2.2, .string (supN x.1), .int .i64 (SYN.getD x.1.1 0), .int .i64 (USG.getD x.1.1 0)]
def flatT (ps : List El) : List Value := ps.flatMap tC
theorem flatT_snoc (ps : List El) (x : El) : flatT (ps ++ [x]) = flatT ps ++ tC x := by simp [flatT]
theorem flatT_len (ps : List El) : (flatT ps).length = ps.length * 6 := by
  induction ps with
  | nil => rfl
  | cons x ps ih =>
    show (tC x ++ flatT ps).length = _
    rw [List.length_append, ih, List.length_cons]
    show 6 + _ = _
    omega
theorem flatT_at (ps : List El) (j r : Nat) (hj : j < ps.length) (hr : r < 6) : (flatT ps)[j * 6 + r]? = (tC ps[j])[r]? := by
  induction ps generalizing j with
  | nil => simp at hj
  | cons x ps ih =>
    show (tC x ++ flatT ps)[j * 6 + r]? = _
    have h6 : (tC x).length = 6 := rfl
    cases j with
    | zero => rw [List.getElem?_append_left (by omega)]; simp
    | succ j =>
      rw [List.getElem?_append_right (by omega), h6, show (j + 1) * 6 + r - 6 = j * 6 + r by omega, ih j (by simpa using hj)]
      rfl
theorem rowIs_slice {W : World} {B : Nat} {x : El} (h : RowIs W B x.1 (agT x)) : ∃ a n c, x.2 = .slice a n c := by
  obtain ⟨al, e, h⟩ := h
  injection e with e
  have e2 : x.2 = al := by
    have := congrArg (fun a => a[1]?) e
    simpa using this
  rw [e2]
  rcases h with ⟨_, rfl⟩ | ⟨_, g, c, _, rfl, _⟩
  · exact ⟨_, _, _, rfl⟩
  · exact ⟨_, _, _, rfl⟩
theorem tC_one {W : World} {B : Nat} {x : El} (h : RowIs W B x.1 (agT x)) : ∀ u ∈ tC x, u.oneCell' = true := by
  obtain ⟨a, n, c, e⟩ := rowIs_slice h
  intro u hu
  unfold tC at hu
  rw [e] at hu
  simp at hu
  rcases hu with rfl | rfl | rfl | rfl | rfl | rfl <;> rfl
theorem rowIs_below {W W' : World} {B : Nat} {i : Fin 62} {v : Value} (h : RowIs W B i v) (hb : Below W.heap.size W W') : RowIs W' B i v := h.of (fun y _ hy => hb.block y hy)
theorem rowIs_base {W : World} {B C : Nat} {i : Fin 62} {v : Value} (h : RowIs W B i v) (hC : C ≤ B) : RowIs W C i v := by
  obtain ⟨al, e, h⟩ := h
  refine ⟨al, e, ?_⟩
  rcases h with h | ⟨h1, g, c, h2, h3⟩
  · exact Or.inl h
  · exact Or.inr ⟨h1, g, c, by omega, h3⟩
theorem rowIs_el {W : World} {B : Nat} {i : Fin 62} {v : Value} (h : RowIs W B i v) : ∃ al, v = agT (i, al) := by
  obtain ⟨al, e, _⟩ := h
  exact ⟨al, e⟩
theorem info_at : (Tryd.prog.info? 32).map (fun i => (i.zero, i.size, i.bytes)) = some (some (.agg #[.string ⟨#[]⟩, .slice none 0 0, .string ⟨#[]⟩, .string ⟨#[]⟩, .int .i64 0, .int .i64 0]), 6, 88) := by kernel_rfl
/-- All rows, as the reference's list has them. -/
def Wnt (W : World) (b : Nat) : Prop := ∃ ps : List El, ps.map Prod.fst = upF 62 ∧ (∀ j (hj : j < ps.length) r v, (tC ps[j])[r]? = some v → W.cell? ⟨b, j * 6 + r, none⟩ = some v) ∧ ∀ x ∈ ps, RowIs W 0 x.1 (agT x)
theorem Wnt.below {W W' : World} {b : Nat} (h : Wnt W b) (hb : Below W.heap.size W W') : Wnt W' b := by
  obtain ⟨ps, h1, h2, h3⟩ := h
  refine ⟨ps, h1, fun j hj r v hv => ?_, fun x hx => rowIs_below (h3 x hx) hb⟩
  have := h2 j hj r v hv
  rw [hb.cell (World.block_lt_of_cell? W _ this)]
  exact this

/-- The list under way. -/
structure LsT (w : World) (k : Nat) (v : Value) (ps : List El) (W : World) : Prop where
  own : W.ownsRow w.heap.size 32 6 v ps.length (flatT ps)
  fst : ps.map Prod.fst = upF k
  rows : ∀ x ∈ ps, RowIs W w.heap.size x.1 (agT x) ∧ ∀ g, x.2.ownBlock = some g → v.ownBlock ≠ some g
  bel : Below w.heap.size w W
theorem rowIs_grown {W W' : World} {B : Nat} {x : El} {row : Option Nat} (h : RowIs W B x.1 (agT x)) (hg : W.grownBy W' row) (hne : ∀ g, x.2.ownBlock = some g → row ≠ some g) : RowIs W' B x.1 (agT x) := by
  obtain ⟨al, e, h⟩ := h
  have e2 : x.2 = al := by
    injection e with e
    have := congrArg (fun a => a[1]?) e
    simpa using this
  refine ⟨al, e, ?_⟩
  rcases h with h | ⟨h1, g, c, h2, h3, h4⟩
  · exact Or.inl h
  · refine Or.inr ⟨h1, g, c, h2, h3, ?_⟩
    rw [World.cell?_of_block (w := W) (a := ⟨g, 0, none⟩) (hg.block g (World.block_lt_of_cell? W _ h4) (fun e' => hne g (by rw [e2, h3]; rfl) e'.symm))]
    exact h4
theorem ls_step {w W W1 : World} {k : Nat} {v : Value} {ps : List El} {al : Value} (h : LsT w k v ps W) (hk : k < 62) (hb : Below W.heap.size W W1) (hr : RowIs W1 W.heap.size ⟨k, hk⟩ (agT (⟨k, hk⟩, al))) (g0 : Nat) (W2 : World)
    (hW2 : Below W1.heap.size W1 W2) (hg0 : W2.heap[g0]? = some (.cells (tC (⟨k, hk⟩, al)).toArray 32 (0, 0))) :
    ∃ v' W3, (Builtin.append_ #[22, 22] 22 #[v, .slice (some ⟨g0, 0, none⟩) 1 1]).run Tryd.prog W2 = .ok v' W3 ∧ LsT w (k + 1) v' (ps ++ [(⟨k, hk⟩, al)]) W3 := by
  have hs := h.bel.size
  have hb2 : Below W.heap.size W W2 := hb.trans (hW2.mono hb.size)
  have hpl : ps.length = k := by
    have := congrArg List.length h.fst
    rw [List.length_map, upF_len k (by omega)] at this
    exact this
  obtain ⟨i0, hi, hz0, hz1, hz2⟩ := info_parts info_at
  have hown2 : W2.ownsRow w.heap.size 32 6 v ps.length (flatT ps) := World.ownsRow.kept h.own ⟨hb2.os, hb2.tape, hb2.output, hb2.size, fun j hj _ => hb2.block j hj⟩ (row := none) (by cases v.ownBlock <;> simp)
  have hr2 : RowIs W2 W.heap.size ⟨k, hk⟩ (agT (⟨k, hk⟩, al)) := rowIs_below hr hW2
  obtain ⟨g, cap, W3, hrun, hO, hg, hv, hlt⟩ := run_append_lies (P := Tryd.prog) W2 22 22 w.heap.size 32 i0 _ 6 88 Tryd.underlying22 hi hz0 hz1 hz2 rfl (by decide) v ps.length (flatT ps) hown2 ⟨g0, 0, none⟩ 1 1 (tC (⟨k, hk⟩, al)) rfl (by simpa using World.news_of_block hg0) (tC_one (x := (⟨k, hk⟩, al)) hr) (by decide) (by unfold maxLen; omega) (by omega) (Nat.le_trans hs hb2.size) W2.heap.size rfl
  have hnew : ∀ g', al.ownBlock = some g' → W.heap.size ≤ g' ∧ g' < W2.heap.size := fun g' hg' => by
    obtain ⟨al', e, q⟩ := hr2
    have e2 : al = al' := by
      injection e with e
      have := congrArg (fun a => a[1]?) e
      simpa using this
    subst e2
    rcases q with ⟨_, rfl⟩ | ⟨_, gg, c, q1, rfl, q2⟩
    · cases hg'
    · have e3 : gg = g' := by simpa [Value.ownBlock] using hg'
      subst e3
      exact ⟨q1, World.block_lt_of_cell? W2 _ q2⟩
  have hvl : ∀ g', v.ownBlock = some g' → g' < W.heap.size := fun g' hg' => (World.ownsRow.lt h.own g' hg').2
  refine ⟨_, W3, hrun, ⟨?_, ?_, ?_, ?_⟩⟩
  · rw [flatT_snoc, List.length_append]
    exact hO
  · exact pre_up h.fst hk al
  · intro x hx
    have ap : ∀ y : El, (∀ g', y.2.ownBlock = some g' → v.ownBlock ≠ some g' ∧ g' < W2.heap.size) → ∀ g', y.2.ownBlock = some g' → (Value.slice (some ⟨g, 0, none⟩) (ps.length + 1) cap).ownBlock ≠ some g' := fun y hy g' hg' e => by
      have e' : g = g' := by simpa [Value.ownBlock] using e
      rcases hv with q | q
      · exact (hy g' hg').1 (by rw [q, e'])
      · have := (hy g' hg').2; omega
    rcases List.mem_append.1 hx with hx | hx
    · obtain ⟨q1, q2⟩ := h.rows x hx
      have ql : ∀ g', x.2.ownBlock = some g' → g' < W.heap.size := fun g' hg' => by
        obtain ⟨al', e, q⟩ := q1
        have e2 : x.2 = al' := by
          injection e with e
          have := congrArg (fun a => a[1]?) e
          simpa using this
        rcases q with ⟨_, q⟩ | ⟨_, gg, c, _, q, q5⟩
        · rw [e2, q] at hg'; cases hg'
        · rw [e2, q] at hg'
          have e3 : gg = g' := by simpa [Value.ownBlock] using hg'
          subst e3
          exact World.block_lt_of_cell? W _ q5
      exact ⟨rowIs_grown (rowIs_below q1 hb2) hg (fun g' hg' => q2 g' hg'), ap x (fun g' hg' => ⟨q2 g' hg', by have := ql g' hg'; have := hb2.size; omega⟩)⟩
    · simp at hx
      subst hx
      have q2 : ∀ g', al.ownBlock = some g' → v.ownBlock ≠ some g' ∧ g' < W2.heap.size := fun g' hg' => ⟨fun e => by have := hvl g' e; have := (hnew g' hg').1; omega, (hnew g' hg').2⟩
      exact ⟨rowIs_base (rowIs_grown hr2 hg (fun g' hg' => (q2 g' hg').1)) hs, ap _ q2⟩
  · refine h.bel.trans ((hb2.mono hs).grown hg (Nat.le_trans hs hb2.size) (fun g' hg' => ?_))
    exact (World.ownsRow.lt h.own g' hg').1

/-- What the reference's Types answers. -/
def TypQ (w : World) (e : Ending) (w' : World) : Prop := ∃ b c, e = .returned (.slice (some ⟨b, 0, none⟩) 62 c) ∧ w.heap.size ≤ b ∧ b < w'.heap.size ∧ Wnt w' b ∧ Below w.heap.size w w'
set_option maxHeartbeats 1000000 in
theorem typesR_any (w : World) (ht : NumTab w) :
    Calls Tryd.prog 4 #[] w fun e w' => TypQ w e w' := by
  have ht' : Hid (NumTab w) := ht
  have h0 : Hid (LsT w 0 (.slice none 0 0) [] w) := ⟨⟨rfl, Or.inl ⟨rfl, rfl⟩⟩, rfl, fun x hx => (by cases hx), Below.refl _ _⟩
  clear ht
  go_enter Tryd.func4, Tryd.ntmps4
  go_wp2_with fail
  go_loopw [1, 2] (fun vv iv wr => ∃ (k : Nat) (ps : List El) (a : Option Addr) (c : Nat), k ≤ 62 ∧ iv = .int .i64 (k : Int) ∧ vv = .slice a k c ∧ Hid (LsT w k (.slice a k c) ps wr)) (fun _ iv _ => 62 - (intOf iv).toNat)
  case atStart => exact ⟨0, [], none, 0, Nat.zero_le _, rfl, rfl, h0⟩
  case round =>
    obtain ⟨k, ps, a, c, hk, rfl, rfl, hL⟩ := hrel
    clear h0
    have k0 : (0 : Int) ≤ (k : Int) := Int.natCast_nonneg _
    by_cases hlt : k < 62
    · have k1 : (k : Int) < 62 := by omega
      have hR : Calls Tryd.prog 8 #[.int .i64 (k : Int)] wr fun e w' => ∃ v, e = .returned v ∧ RowIs w' wr.heap.size ⟨k, hlt⟩ v ∧ Below wr.heap.size wr w' := refRowTold_any ⟨k, hlt⟩ wr (ht'.out.below hL.out.bel)
      have hlt' : Hid (k < 62) := hlt
      clear hk
      go_wp2_with fail
      refine hR.mono ?_
      rintro e W1 ⟨v, rfl, hI, hb1⟩
      obtain ⟨al, rfl⟩ := rowIs_el hI
      obtain ⟨aa, an, ac, he⟩ := rowIs_slice (x := (⟨k, hlt⟩, al)) hI
      have he' : al = .slice aa an ac := he
      clear he
      subst he'
      have hbx : Below W1.heap.size W1 ((W1.alloc (.cells #[.string (rowL ⟨k, hlt⟩).1, .slice aa an ac, .string (rowL ⟨k, hlt⟩).2.2, .string (supN ⟨k, hlt⟩), .int .i64 (SYN.getD k 0), .int .i64 (USG.getD k 0)] 32)).alloc (.cells #[.string (rowL ⟨k, hlt⟩).1, .slice aa an ac, .string (rowL ⟨k, hlt⟩).2.2, .string (supN ⟨k, hlt⟩), .int .i64 (SYN.getD k 0), .int .i64 (USG.getD k 0)] 32)) := ((Below.refl _ _).alloc (Nat.le_refl _) _).alloc (by simp) _
      obtain ⟨v', W3, hrun, hN⟩ := ls_step hL.out hlt hb1 hI (W1.heap.size + 1) _ hbx (by
        have h := World.alloc_heap_new (W1.alloc (.cells #[.string (rowL ⟨k, hlt⟩).1, .slice aa an ac, .string (rowL ⟨k, hlt⟩).2.2, .string (supN ⟨k, hlt⟩), .int .i64 (SYN.getD k 0), .int .i64 (USG.getD k 0)] 32)) (.cells #[.string (rowL ⟨k, hlt⟩).1, .slice aa an ac, .string (rowL ⟨k, hlt⟩).2.2, .string (supN ⟨k, hlt⟩), .int .i64 (SYN.getD k 0), .int .i64 (USG.getD k 0)] 32)
        rw [World.size_alloc] at h
        exact h)
      obtain ⟨n1, hn1⟩ : ∃ x, (rowL ⟨k, hlt⟩).1 = x := ⟨_, rfl⟩
      obtain ⟨n2, hn2⟩ : ∃ x, (rowL ⟨k, hlt⟩).2.2 = x := ⟨_, rfl⟩
      obtain ⟨n3, hn3⟩ : ∃ x, (supN ⟨k, hlt⟩) = x := ⟨_, rfl⟩
      obtain ⟨n4, hn4⟩ : ∃ x, SYN.getD k 0 = x := ⟨_, rfl⟩
      obtain ⟨n5, hn5⟩ : ∃ x, USG.getD k 0 = x := ⟨_, rfl⟩
      dsimp only [agT]
      simp only [hn1, hn2, hn3, hn4, hn5] at hrun ⊢
      have hpl : (ps ++ [((⟨k, hlt⟩ : Fin 62), Value.slice aa an ac)]).length = k + 1 := by
        have := congrArg List.length hN.fst
        rw [List.length_map, upF_len (k + 1) (by omega)] at this
        exact this
      obtain ⟨g, cap, rfl, _⟩ := World.ownsRow.form hN.own (by omega)
      rw [hpl] at hrun hN
      have hN' : Hid (LsT w (k + 1) (.slice (some ⟨g, 0, none⟩) (k + 1) cap) (ps ++ [((⟨k, hlt⟩ : Fin 62), Value.slice aa an ac)]) W3) := hN
      clear hR hI hb1 hbx hN hn1 hn2 hn3 hn4 hn5 hpl hL
      go_wp2_with (at_builtin; refine Lib.wpList_append_run _ rfl _ _ _ _ rfl _ _ rfl rfl _ _ hrun ?_)
      refine ⟨⟨k + 1, _, _, _, hlt'.out, by simp, rfl, hN'⟩, ?_⟩
      have := hlt'.out
      simp [intOf]
      omega
    · have hke : k = 62 := by omega
      have hpl : ps.length = k := by
        have := congrArg List.length hL.out.fst
        rw [List.length_map, upF_len k (by omega)] at this
        exact this
      obtain ⟨g, cap, e, hq9⟩ := World.ownsRow.form hL.out.own (by omega)
      clear hq9
      injection e with e1 e3 e2
      clear e3
      subst e1 e2
      have hown : wr.ownsRow w.heap.size 32 6 (.slice (some ⟨g, 0, none⟩) k c) ps.length (flatT ps) := hL.out.own
      have hlt2 := World.ownsRow.lt hown g rfl
      rw [hpl] at hown
      have hfin : Hid (w.heap.size ≤ g ∧ g < wr.heap.size ∧ Wnt wr g ∧ Below w.heap.size w wr ∧ k = 62) := by
        refine ⟨hlt2.1, hlt2.2, ⟨ps, hL.out.fst.trans (congrArg upF hke), fun j hj r v hv => ?_, fun x hx => rowIs_base (hL.out.rows x hx).1 (Nat.zero_le _)⟩, hL.out.bel, hke⟩
        have hr6 : r < 6 := by
          rcases Nat.lt_or_ge r 6 with q | q
          · exact q
          · rw [List.getElem?_eq_none (by exact q)] at hv; cases hv
        have hj2 : j * 6 + r < k * 6 := by omega
        rw [World.ownsRow.cellAt hown (j * 6 + r) hj2, flatT_at ps j r hj hr6]
        exact hv
      have k1 : ¬ (k : Int) < 62 := by omega
      clear hown hlt2 hpl hke
      clear hL hlt hk
      go_wp2_with fail
      go_ret
      exact ⟨g, c, by rw [hfin.out.2.2.2.2]; rfl, hfin.out.1, hfin.out.2.1, hfin.out.2.2.1, hfin.out.2.2.2.1⟩
end Ty
end Go.Proofs.YtndbbfbihheagaaDoor
