import Derived.Test.YtmkmfnbjmakebaaPgMrg
namespace Go.Proofs.Ytmkmfnbjmakebaa
open Go.RowKit Go.Sort Go.Lib Go.Shelf
open PgMath (Inc setOf cnt)
open PgHpM (Hd ky kf swpH Hp Gd sw)
open PgCnM (occ stepL Inn Out atl)
open PgSeq (Mv Still SeqT range_t range_tn)
set_option linter.unusedVariables false
set_option maxRecDepth 100000
attribute [local go_sem] Oper.semAt_some

/-- The types of the cells that Merge's walk keeps. -/
def TM (t : TypeId) : Bool := TT t || t == 45
def KpM (n₀ : Nat) (W W' : World) : Prop := Below n₀ W W' ∧ ∀ (k : Nat) cs t fz, W.heap[k]? = some (Obj.cells cs t fz) → TM t = true → W'.heap[k]? = some (Obj.cells cs t fz)
theorem tm_of_tt {t : TypeId} (h : TT t = true) : TM t = true := by simp [TM, h]
theorem KpM.c {n₀ : Nat} {A B : World} (h : KpM n₀ A B) : KpC n₀ A B := ⟨h.1, fun k cs t fz hk ht => h.2 k cs t fz hk (tm_of_tt ht)⟩
theorem KpM.trans {n₀ : Nat} {A B C : World} (h : KpM n₀ A B) (k : KpM n₀ B C) : KpM n₀ A C := ⟨h.1.trans k.1, fun i cs t fz hi ht => k.2 i cs t fz (h.2 i cs t fz hi ht) ht⟩
theorem KpM.refl (n₀ : Nat) (A : World) : KpM n₀ A A := ⟨Below.refl _ _, fun _ _ _ _ h _ => h⟩
theorem KpM.book {n₀ : Nat} {w : World} (hn : n₀ ≤ w.heap.size) (W : World) (l : Nat) (o o' : Obj) (hl : w.heap.size ≤ l) (h : W.heap[l]? = some o) (hc : o.isCells = false) (hw : o.isWalk = false) : KpM n₀ W (W.putObj l o') := by
  refine ⟨belowK_b (w := w) hn W l o o' hl h hc hw, fun k cs t fz hk _ => ?_⟩
  have hne : l ≠ k := by
    intro e
    subst e
    rw [hk] at h
    injection h with h
    subst h
    cases hc
  exact (World.putObj_heap_other hne.symm).trans hk
theorem Mv.widen {T T' : TypeId → Bool} {B B' : Nat} {W W' : World} (h : Mv T B' W W') (ht : ∀ t, T t = true → T' t = true) (hB : B ≤ B') : Mv T' B W W' :=
  ⟨h.1, h.2.1, h.2.2.1, h.2.2.2.1, fun k o hk => (h.2.2.2.2 k o hk).imp_right fun e => ⟨by omega, e.2.imp_right fun ⟨cs, t, fz, e1, e2⟩ => ⟨cs, t, fz, e1, ht t e2⟩⟩⟩
theorem keepsFrom_mono {B B' : Nat} {W W' : World} (h : KeepsFrom B W W') (hB : B ≤ B') : KeepsFrom B' W W' := ⟨h.size, fun k o hk => h.same k o (by omega)⟩
theorem ownFrom_mono {β : Type} {B B' : Nat} {I : β → World → Prop} (h : OwnFrom B I) (hB : B ≤ B') : OwnFrom B' I := fun s W W' row hs hg hr => h s W W' row hs hg (fun r e => ⟨by have := (hr r e).1; omega, (hr r e).2⟩)
/-- The union of the lists. -/
def IsU (D : List (List Int)) (U : List Int) : Prop := Inc U ∧ ∀ x, x ∈ U ↔ 0 < occ D x
theorem out_done {D : List (List Int)} {U : List Int} {xs : List (Int × Nat)} (hU : IsU D U) (h : Out D xs []) : xs.map Prod.fst = U := by
  obtain ⟨h1, h2, h3⟩ := h.done
  refine PgMath.inc_eq _ _ h1 hU.1 (fun x => ?_)
  rw [hU.2, h3, List.mem_map]
theorem out_pre {D Ls : List (List Int)} {U : List Int} {xs : List (Int × Nat)} (hU : IsU D U) (h : Out D xs Ls) : xs.map Prod.fst <+: U := by
  obtain ⟨h1, h2, h3, h4, h5, h6⟩ := h
  refine ⟨setOf Ls.flatten, PgMath.inc_eq _ _ ?_ hU.1 (fun x => ?_)⟩
  · refine List.pairwise_append.2 ⟨h2, PgMath.setOf_inc _, fun a ha b hb => ?_⟩
    obtain ⟨p, hp, rfl⟩ := List.mem_map.1 ha
    rw [PgMath.setOf_mem, List.mem_flatten] at hb
    obtain ⟨l, hl, hbl⟩ := hb
    exact h3 p hp l hl b hbl
  · rw [hU.2, List.mem_append, PgMath.setOf_mem, List.mem_flatten, List.mem_map]
    constructor
    · rintro (⟨p, hp, rfl⟩ | ⟨l, hl, hx⟩)
      · have := h5 p hp; omega
      · have hpos : 0 < occ Ls x := PgCnM.occ_pos.2 ⟨l, hl, hx⟩
        have := h4 x (fun p hp => h3 p hp l hl x hx)
        omega
    · intro hx
      rcases h6 x hx with h7 | h7
      · exact Or.inl h7
      · exact Or.inr (PgCnM.occ_pos.1 h7)
abbrev encM (x : Int) : Array Value := #[.int .i64 x]

set_option maxRecDepth 1000000 in
set_option maxHeartbeats 4000000 in
theorem merge_stops (n : Nat) (hn : 3 ≤ n) (w : World) (lo hi bx N : Nat) (Qs : List Hd) (U : List Int) (hM : Mrg w lo hi bx Qs) (hl : Qs.length * 24 ≤ 140737488355328) (hN : tot (lsts Qs) ≤ N) (hU : IsU (lsts (some1 Qs)) U) :
    SeqT Fence.wide n Try.prog TM 29 #[.pointer (some ⟨bx, 0, none⟩)] encM (KpM hi) (fun xs => xs = U) (fun pre => pre <+: U) N w := fun l J Jx W hW hJ hJx hY h0 => by
  have hhi := hM.2.2.2.1
  have h1n : 1 ≤ n := by omega
  have hMW : Mrg W lo hi bx Qs := hM.keep hW.size (fun k _ hk => hW.block k (by omega))
  obtain ⟨⟨g, m1, m2, m3, m4⟩, m5, m6, m7, m8⟩ := hMW
  refine callsIn_of_wp_marks Try.func29 rfl trivial ?_ rfl
  simp only [Try.ntmps29, List.size_toArray, List.length_cons, List.length_nil, Nat.reduceAdd, Nat.reduceSub, Array.replicate_succ, Array.replicate_zero, List.push_toArray, List.append_toArray, List.nil_append, List.cons_append]
  obtain ⟨qn, hqn⟩ : ∃ qn, Qs.length = qn := ⟨_, rfl⟩
  rw [hqn] at m1
  have m1' : (W.alloc (.cells #[.func (.yield l) #[] #[]] 45)).cell? ⟨bx, 0, none⟩ = some (.slice (some ⟨g, 0, none⟩) qn qn) := by
    rw [((Below.refl W.heap.size W).alloc (Nat.le_refl _) _).cell (World.block_lt_of_cell? W _ m1)]
    exact m1
  gi_wp2_with (refine ⟨trivial, ?_⟩; gi_at_call 22; refine (callsIn_wide.2 (counted_any _ _ _ _)).mono ?_; rintro e w3 ⟨rfl, rfl⟩)
  have hb0 : Below W.heap.size W ((W.alloc (.cells #[.func (.yield l) #[] #[]] 45)).alloc (.cells #[.slice (some ⟨g, 0, none⟩) qn qn] 22)) := ((Below.refl _ _).alloc (Nat.le_refl _) _).alloc (by simp) _
  have hcb : ((W.alloc (.cells #[.func (.yield l) #[] #[]] 45)).alloc (.cells #[.slice (some ⟨g, 0, none⟩) qn qn] 22)).cell? ⟨W.heap.size + 1, 0, none⟩ = some (.slice (some ⟨g, 0, none⟩) Qs.length qn) := by
    rw [hqn]
    have := (Boxed.new (W.alloc (.cells #[.func (.yield l) #[] #[]] 45)) 22 (.slice (some ⟨g, 0, none⟩) qn qn)).cell
    rwa [World.size_alloc] at this
  have hby : Boxed ((W.alloc (.cells #[.func (.yield l) #[] #[]] 45)).alloc (.cells #[.slice (some ⟨g, 0, none⟩) qn qn] 22)) W.heap.size 45 (.func (.yield l) #[] #[]) := (Boxed.new W _ _).alloc _
  have hsz0 : ((W.alloc (.cells #[.func (.yield l) #[] #[]] 45)).alloc (.cells #[.slice (some ⟨g, 0, none⟩) qn qn] 22)).heap.size = W.heap.size + 2 := by simp
  generalize hW0 : ((W.alloc (.cells #[.func (.yield l) #[] #[]] 45)).alloc (.cells #[.slice (some ⟨g, 0, none⟩) qn qn] 22)) = W0 at *
  have hJ0 : J [] W0 := hJ _ _ _ h0 (Mv.of_below hb0)
  have hIo : OwnFrom W0.heap.size (fun (pre : List (Int × Nat)) W' => J (pre.map Prod.fst) W' ∧ Boxed W' W.heap.size 45 (.func (.yield l) #[] #[])) :=
    OwnFrom.and (fun s A B row hs hg hr => ownFrom_mono hJ.own (show W.heap.size ≤ W0.heap.size by omega) _ A B row hs hg hr) (Own.from (boxed_own _ _ _) _)
  have hIs : Still TT W0.heap.size (fun (pre : List (Int × Nat)) W' => J (pre.map Prod.fst) W' ∧ Boxed W' W.heap.size 45 (.func (.yield l) #[] #[])) := fun s A B hs hm =>
    ⟨hJ _ _ _ hs.1 (Mv.widen hm (fun t => tm_of_tt) (by omega)), boxed_mv hs.2 hm (by decide)⟩
  have hXo : ∀ c : Code, OwnFrom W0.heap.size (fun (pre : List (Int × Nat)) W' => c = .ret ∧ Jx (pre.map Prod.fst) W') := fun c s A B row hs hg hr => ⟨hs.1, ownFrom_mono hJx.own (show W.heap.size ≤ W0.heap.size by omega) _ A B row hs.2 hg hr⟩
  have hXs : ∀ c : Code, Still TT W0.heap.size (fun (pre : List (Int × Nat)) W' => c = .ret ∧ Jx (pre.map Prod.fst) W') := fun c s A B hs hm => ⟨hs.1, hJx _ _ _ hs.2 (Mv.widen hm (fun t => tm_of_tt) (by omega))⟩
  refine range_t (T := TT) rfl (by omega) (gf := 30) (lb := #[.pointer (some ⟨W.heap.size + 1, 0, none⟩)]) rfl trivial (enters_of Try.func30 (by kernel_rfl) rfl)
    (counted_stops (n - 1) (by omega) W0 (W.heap.size + 1) hi (some ⟨g, 0, none⟩) Qs qn N hcb (m4.below hb0) (fun h hh hp => ((m8 h hh hp).1).keep (hb0.mono m7)) (by omega) hl hN) KpC.trans (KpC.book (by omega)) (Below.refl _ _) (fun _ => rfl)
    (fun (pre : List (Int × Nat)) W' => J (pre.map Prod.fst) W' ∧ Boxed W' W.heap.size 45 (.func (.yield l) #[] #[])) (fun c pre W' => c = .ret ∧ Jx (pre.map Prod.fst) W') hIo hIs hXo hXs ⟨hJ0, hby⟩
    (fun x => { tmps := #[.func (.yield l) #[] #[], .pointer (some ⟨bx, 0, none⟩), .pointer (some ⟨W.heap.size, 0, none⟩), .int .i64 x.1, .slice (some ⟨g, 0, none⟩) qn qn, .func (.func 30) #[] #[.pointer (some ⟨W.heap.size + 1, 0, none⟩)], .int .i64 x.1, .int .i64 (x.2 : Int), undef, undef, undef, undef], defers := [] }) ?assign ?body ?done ?stop
  case assign =>
    intro l x W K hK
    gi_wp2
    exact hK
  case body =>
    rintro l' pre x W1 hl' hlr ⟨hj, hby1⟩ hlen
    obtain ⟨fn, tmps, assign, body, hy, hR⟩ := PgSeq.YieldAt.wide (n - 1 - 1 - 1) (hY (pre.map Prod.fst) x.1 W1 hj (by simpa using hlen))
    dsimp only [encM] at hy
    have c1 := hby1.cell
    have hw0 : Hid (W.heap.size ≤ W0.heap.size) := by unfold Hid; omega
    clear hcb hby hsz0 hW0 hJ0 hIo hIs hXo hXs hb0 hl' hlr hlen m1 m1' m2 m3 m4 m5 m6 m7 m8 hM hl hN hhi
    have hR' : RoundIn (Fence.wide.inRound l') (n - 1 - 1 - 1) Try.prog l fn tmps assign body W1 (fun e W' =>
      KeepsFrom W.heap.size W1 W' ∧ ((e = .returned (.bool true) ∧ J (pre.map Prod.fst ++ [x.1]) W' ∧ KpM hi W1 W') ∨ (e = .returned (.bool false) ∧ Jx (pre.map Prod.fst ++ [x.1]) W'))) := hR
    have hbyk : Hid (∀ W3, KpM hi W1 W3 → Boxed W3 W.heap.size 45 (.func (.yield l) #[] #[])) := fun W3 hk => hk.2 _ _ _ _ hby1 rfl
    have hmp : (pre ++ [x]).map Prod.fst = pre.map Prod.fst ++ [x.1] := by simp
    clear hR hby1
    gi_wp2
    refine ⟨fun h => (by cases h), ?_⟩
    refine hR'.mono ?_
    clear hR' hy
    rintro e W3 ⟨hkf, (⟨rfl, hJ3, hk3⟩ | ⟨rfl, hJx3⟩)⟩
    · gi_wp2
      exact ⟨keepsFrom_mono hkf hw0.out, hk3.c, by rw [hmp]; exact hJ3, hbyk.out W3 hk3⟩
    · gi_wp2
      exact ⟨keepsFrom_mono hkf hw0.out, rfl, by rw [hmp]; exact hJx3⟩
  case done =>
    rintro D ys W3 hD hout ⟨hj, _⟩ hK
    have hfin : Hid (ys.map Prod.fst = U ∧ J (ys.map Prod.fst) (W3.putObj D (.deferred none))) := ⟨out_done hU hout, hJ.own.putObj _ hj (by omega) hK rfl⟩
    clear hcb hby hsz0 hW0 hJ0 hIo hIs hXo hXs hb0 m1 m1' m2 m3 m4 m5 m6 m7 m8 hM hl hN hhi
    gi_wp2
    refine ⟨by simp, .inl ⟨_, _, rfl, run_takeDeferred hK, ?_⟩⟩
    exact ⟨_, results_none rfl _ _ _, ⟨_, rfl⟩, .inl ⟨_, hfin.out.1, hfin.out.2⟩⟩
  case stop =>
    rintro D c pre W3 hD ⟨Ls, hout⟩ ⟨rfl, hjx⟩ hK
    have hfin : Hid (pre.map Prod.fst <+: U ∧ Jx (pre.map Prod.fst) (W3.putObj D (.deferred none))) := ⟨out_pre hU hout, hJx.own.putObj _ hjx (by omega) hK rfl⟩
    clear hcb hby hsz0 hW0 hJ0 hIo hIs hXo hXs hb0 m1 m1' m2 m3 m4 m5 m6 m7 m8 hM hl hN hhi
    gi_wp2
    refine ⟨by simp, .inl ⟨_, _, rfl, run_takeDeferred hK, ?_⟩⟩
    exact ⟨_, results_none rfl _ _ _, ⟨_, rfl⟩, .inr ⟨_, hfin.out.1, hfin.out.2⟩⟩
end Go.Proofs.Ytmkmfnbjmakebaa
