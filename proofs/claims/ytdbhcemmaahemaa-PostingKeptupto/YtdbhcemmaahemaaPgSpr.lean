import Derived.Test.YtdbhcemmaahemaaPgSet
namespace Go.Proofs.Ytdbhcemmaahemaa
open Go.RowKit Go.Sort Go.Lib
open PgMath (Inc setOf cnt)
open PgHpM (Hd)
set_option linter.unusedVariables false
set_option maxRecDepth 100000

/-- A list of lists of the call's own. -/
def OwnL (W : World) (B : Nat) (v : Value) (H : List Hd) : Prop := W.ownsRow B 35 1 v H.length (H.map hv)
theorem ownL_nil (W : World) (B : Nat) : OwnL W B (.slice none 0 0) [] := ⟨rfl, Or.inl ⟨rfl, rfl⟩⟩
theorem ownL_slice {W : World} {B : Nat} {v : Value} {H : List Hd} (h : OwnL W B v H) : ∃ a c, v = .slice a H.length c ∧ SRow W a H ∧ H.length ≤ c ∧ c ≤ maxLen := by
  rcases h.2 with ⟨rfl, hn⟩ | ⟨g, cap, cur, rfl, h3, h4, h5, h6, h7, h8⟩
  · have := List.eq_nil_of_length_eq_zero hn
    subst this
    exact ⟨none, 0, rfl, fun i hi => by simp at hi, Nat.le_refl _, by unfold maxLen; omega⟩
  · refine ⟨some ⟨g, 0, none⟩, cap, rfl, fun i hi => ⟨g, 0, rfl, ?_⟩, h5, h6⟩
    have hc := World.ownsRow.cellAt (show W.ownsRow B 35 1 _ H.length (H.map hv) from h) i (by omega)
    rw [Nat.zero_add, hc]
    simp [hi]
theorem ownL_below {W W' : World} {B : Nat} {v : Value} {H : List Hd} (h : OwnL W B v H) (hb : Below W.heap.size W W') : OwnL W' B v H := by
  rcases h with ⟨h1, ⟨rfl, h2⟩ | ⟨g, cap, cur, rfl, h3, h4, h5⟩⟩
  · exact ⟨h1, Or.inl ⟨rfl, h2⟩⟩
  · exact ⟨h1, Or.inr ⟨g, cap, cur, rfl, h3, by rw [hb.block g (Array.getElem?_eq_some_iff.1 h4).1]; exact h4, h5⟩⟩
/-- A row of lists appended to a list of lists of the call's own. -/
theorem appendL_row (w : World) (B : Nat) (v : Value) (H K : List Hd) (a : Option Addr) (c : Nat) (hown : OwnL w B v H) (hk : SRow w a K) (hB : B ≤ w.heap.size) (hsz : (H.length + K.length) * 24 ≤ 140737488355328) :
    ∃ v' w', (Builtin.append_ #[33, 33] 33 #[v, .slice a K.length c]).run Try.prog w = .ok v' w' ∧ OwnL w' B v' (H ++ K) ∧ w.grownBy w' v.ownBlock := by
  obtain ⟨i0, hi, hz0, hz1, hz2⟩ := info_parts info_is
  by_cases h0 : K.length = 0
  · have hk0 := List.eq_nil_of_length_eq_zero h0
    subst hk0
    refine ⟨v, w, ?_, by rw [List.append_nil]; exact hown, ⟨rfl, rfl, rfl, Nat.le_refl _, fun _ _ _ => rfl⟩⟩
    obtain ⟨va, vc, rfl, _, hvc, _⟩ := ownL_slice hown
    have hn : va = none → vc = 0 ∧ H = [] := fun e => by
      subst e
      rcases hown.2 with ⟨e1, e2⟩ | ⟨g, cap, cur, e1, _⟩
      · injection e1 with _ _ e1; exact ⟨e1, List.eq_nil_of_length_eq_zero e2⟩
      · cases e1
    cases a with
    | none =>
      cases va with
      | none => obtain ⟨rfl, rfl⟩ := hn rfl; simp [Builtin.append_, run_underlying Try.underlying33, sizeOf, typeInfo, hi, Builtin.lenOf, Builtin.firstCells]
      | some g => simp [Builtin.append_, run_underlying Try.underlying33, sizeOf, typeInfo, hi, Builtin.lenOf, Builtin.firstCells, hvc, storeCells]
    | some d =>
      cases va with
      | none => obtain ⟨rfl, rfl⟩ := hn rfl; simp [Builtin.append_, run_underlying Try.underlying33, sizeOf, typeInfo, hi, Builtin.lenOf, Builtin.firstCells, loadCells, loadCellsFrom]
      | some g => simp [Builtin.append_, run_underlying Try.underlying33, sizeOf, typeInfo, hi, Builtin.lenOf, Builtin.firstCells, loadCells, loadCellsFrom, hvc, storeCells]
  · obtain ⟨b, off, rfl, _⟩ := hk 0 (by omega)
    have hnews : ∀ j u, (K.map hv)[j]? = some u → w.cell? ((⟨b, off, none⟩ : Addr).add j) = some u := by
      intro j u hj
      have hjn : j < K.length := by
        rcases Nat.lt_or_ge j K.length with h' | h'
        · exact h'
        · rw [List.getElem?_eq_none (by simpa using h')] at hj; cases hj
      obtain ⟨b', off', e, hc⟩ := hk j hjn
      injection e with e
      injection e with e1 e2
      subst e1 e2
      rw [add_off, hc, ← hj]
      simp [hjn]
    obtain ⟨g, cap, w', hr, h2, h3, _, _⟩ := run_append_lies (P := Try.prog) w 33 33 B 35 i0 _ 1 24 Try.underlying33 hi hz0 hz1 hz2 rfl (by decide) v H.length (H.map hv) hown ⟨b, off, none⟩ K.length c (K.map hv) (by simp) hnews (by intro u hu; obtain ⟨y, _, rfl⟩ := List.mem_map.1 hu; rfl) (by omega) (by unfold maxLen; omega) hsz hB w.heap.size rfl
    refine ⟨_, w', hr, ?_, h3⟩
    unfold OwnL
    rw [List.map_append, List.length_append]
    exact h2
theorem grown_below {w w' : World} {B : Nat} {v : Value} {H : List Hd} (h : OwnL w B v H) (hg : w.grownBy w' v.ownBlock) (hB : B ≤ w.heap.size) : Below B w w' :=
  (Below.refl _ _).grown hg hB (fun k hk => (World.ownsRow.lt (show w.ownsRow B 35 1 v H.length (H.map hv) from h) _ hk).1)
/-- A list with an element in its spare room. -/
def Spd (W : World) (B : Nat) (h : Hd) : Prop := ∃ g, h.1 = some ⟨g, 0, none⟩ ∧ OwnI W B (.slice (some ⟨g, 0, none⟩) (h.2.2.length + 1) h.2.1) (h.2.2 ++ [-77])
theorem Spd.below {W W' : World} {B : Nat} {h : Hd} (hs : Spd W B h) (hb : Below W.heap.size W W') : Spd W' B h := by
  obtain ⟨g, e, h1⟩ := hs
  exact ⟨g, e, ownI_below h1 hb⟩
theorem Spd.kept {W W' : World} {B C : Nat} {h : Hd} {v : Value} {H : List Hd} (hs : Spd W B h) (hl : OwnL W C v H) (hg : W.grownBy W' v.ownBlock) : Spd W' B h := by
  obtain ⟨g, e, h1⟩ := hs
  refine ⟨g, e, World.ownsRow.kept h1 hg (Or.inr (fun e' => ?_))⟩
  rcases h1.2 with ⟨e1, _⟩ | ⟨g1, cap, cur, e1, _, h4, _⟩
  · cases e1
  · injection e1 with e1
    injection e1 with e1
    injection e1 with e1
    subst e1
    rcases hl.2 with ⟨rfl, _⟩ | ⟨g2, cap2, cur2, rfl, _, h5, _⟩
    · simp [Value.ownBlock] at e'
    · simp [Value.ownBlock] at e'
      subst e'
      rw [h4] at h5
      injection h5 with h5
      injection h5 with _ h5
      exact absurd h5 (by decide)
theorem Spd.rd {W : World} {B : Nat} {h : Hd} (hs : Spd W B h) (hl : h.2.2.length ≤ 1099511627776) : Rd W h.1 h.2.1 h.2.2 := by
  obtain ⟨g, e, h1⟩ := hs
  have hr := (ownI_row h1).1
  refine ⟨fun i hi => ?_, ?_, ?_, by omega⟩
  · obtain ⟨b, off, e1, e2⟩ := hr i (by simp; omega)
    refine ⟨b, off, e.trans e1, ?_⟩
    rw [e2, List.getElem_append_left hi]
  · rcases ownI_form h1 with ⟨e1, _⟩ | ⟨g1, cap, e1, e2, _⟩
    · cases e1
    · injection e1 with _ _ e1; simp at e2; omega
  · rcases ownI_form h1 with ⟨e1, _⟩ | ⟨g1, cap, e1, e2, e3, _⟩
    · cases e1
    · injection e1 with _ _ e1; omega
/-- What spared has laid, of the first k lists. -/
def SpI (w : World) (Ss : List Hd) (v : Value) (Os : List Hd) (W : World) : Prop :=
  OwnL W w.heap.size v Os ∧ Os.length ≤ Ss.length ∧ lsts Os = lsts (Ss.take Os.length) ∧ (∀ h ∈ Os, Spd W w.heap.size h) ∧ Below w.heap.size w W

set_option maxRecDepth 100000 in
set_option maxHeartbeats 2000000 in
theorem spared_any (sa : Option Addr) (Ss : List Hd) (sc : Nat) (w : World) (hr : SRow w sa Ss) (hok : ∀ x ∈ Ss, Rd w x.1 x.2.1 x.2.2) (ht : tot (lsts Ss) + Ss.length ≤ 4194304) :
    Calls Try.prog 18 #[.slice sa Ss.length sc] w fun e w' => ∃ a c Os, e = .returned (.slice a Os.length c) ∧ SpI w Ss (.slice a Os.length c) Os w' ∧ Os.length = Ss.length := by
  have hS : Hid (SRow w sa Ss ∧ (∀ x ∈ Ss, Rd w x.1 x.2.1 x.2.2) ∧ tot (lsts Ss) + Ss.length ≤ 4194304) := ⟨hr, hok, ht⟩
  have sb : (Ss.length : Int) ≤ 4194304 := by omega
  obtain ⟨n, hn⟩ : ∃ n, Ss.length = n := ⟨_, rfl⟩
  rw [hn] at sb ⊢
  have hn' : Hid (Ss.length = n) := hn
  clear hr hok ht hn
  go_enter Try.func18, Try.ntmps18
  go_wp2_with fail
  go_loopw [3, 4] (fun v ivv wr => ∃ (j : Nat) (Os : List Hd) (oa : Option Addr) (on oc : Nat), ivv = .int .i64 (j : Int) ∧ v = .slice oa on oc ∧ j ≤ n ∧ Hid (Os.length = j ∧ SpI w Ss (.slice oa on oc) Os wr)) (fun _ ivv _ => n - (intOf ivv).toNat)
  case atStart => exact ⟨0, [], none, 0, 0, rfl, rfl, Nat.zero_le _, rfl, ownL_nil _ _, Nat.zero_le _, by simp [lsts], fun h hh => by simp at hh, Below.refl _ _⟩
  case round =>
    obtain ⟨j, Os, oa, on, oc, rfl, rfl, hj, hQ⟩ := hrel
    have j0 : (0 : Int) ≤ (j : Int) := Int.natCast_nonneg _
    by_cases hlt : j < n
    · have j1 : (j : Int) < (n : Int) := Int.ofNat_lt.2 hlt
      have hjS : j < Ss.length := by rw [hn'.out]; exact hlt
      obtain ⟨q1, q2, q3, q4, q5, q6⟩ := hQ.out
      have hsr := hS.out.1.below q6
      obtain ⟨b, off, rfl, c1⟩ := hsr j hjS
      have hx := (hS.out.2.1 _ (List.getElem_mem hjS)).below q6
      have hxl : Ss[j].2.2.length ≤ 4194304 := by
        have := tot_take (lsts Ss) (List.mem_map_of_mem (List.getElem_mem hjS))
        have := hS.out.2.2
        omega
      -- the list, then the element behind it, then the header
      obtain ⟨v1, w1, e1, o1, b1⟩ := appendI_row wr wr.heap.size (.slice none 0 0) [] Ss[j].2.2 Ss[j].1 Ss[j].2.2.length Ss[j].2.1 (ownI_nil _ _) hx.1 rfl (Nat.le_refl _) (by simp; omega)
      rw [List.nil_append] at o1
      obtain ⟨v2, w2, e2, o2, b2⟩ := appendI_row (w1.alloc (.cells #[.int .i64 (-77)] 2)) wr.heap.size v1 Ss[j].2.2 [-77] (some ⟨w1.heap.size, 0, none⟩) 1 1 (World.ownsRow.alloc o1 _) (rd_lit w1 [-77] 2 (by decide)).1 rfl (by have := b1.size; simp; omega) (by simp; omega)
      have b12 : Below wr.heap.size wr w2 := b1.trans (((Below.refl _ _).alloc b1.size _).trans b2)
      obtain ⟨g2, cap2, hv2⟩ : ∃ g cap, v2 = .slice (some ⟨g, 0, none⟩) (Ss[j].2.2.length + 1) cap := by
        rcases ownI_form o2 with ⟨_, e⟩ | ⟨g, cap, e, _⟩
        · simp at e
        · exact ⟨g, cap, by rw [e]; simp⟩
      subst hv2
      have hcap : Ss[j].2.2.length ≤ cap2 := by
        rcases ownI_form o2 with ⟨e, _⟩ | ⟨g, cap, e, h9, _⟩
        · cases e
        · injection e with _ _ e; simp at h9; omega
      have hsl : ∀ W, (Instr.sliceAt 35 (.slice (some ⟨g2, 0, none⟩) (Ss[j].2.2.length + 1) cap2) none (some (.int .i64 (Ss[j].2.2.length : Int))) none).run Try.prog W = .ok (.slice (some ⟨g2, 0, none⟩) Ss[j].2.2.length cap2) W := fun W => half_l _ _ cap2 Ss[j].2.2.length _ rfl hcap W
      have hOL := ownL_below (ownL_below q2 b12) ((Below.refl _ w2).alloc (Nat.le_refl _) (.cells #[.slice (some ⟨g2, 0, none⟩) Ss[j].2.2.length cap2] 35))
      have hws : w.heap.size ≤ w2.heap.size := by have := q6.size; have := b12.size; omega
      obtain ⟨v3, w3, e3, o3, g3⟩ := appendL_row (w2.alloc (.cells #[.slice (some ⟨g2, 0, none⟩) Ss[j].2.2.length cap2] 35)) w.heap.size (.slice oa on oc) Os [(some ⟨g2, 0, none⟩, cap2, Ss[j].2.2)] (some ⟨w2.heap.size, 0, none⟩) 1 hOL (srow_lit w2 [(some ⟨g2, 0, none⟩, cap2, Ss[j].2.2)] 35) (by simp; omega) (by have := hS.out.2.2; simp; omega)
      obtain ⟨a3, c3, rfl, _⟩ := ownL_slice o3
      replace e3 : (Builtin.append_ #[33, 33] 33 #[.slice oa on oc, .slice (some ⟨w2.heap.size, 0, none⟩) 1 1]).run Try.prog (w2.alloc (.cells #[.slice (some ⟨g2, 0, none⟩) Ss[j].2.2.length cap2] 35)) = _ := e3
      have c1' : ∀ W, Below wr.heap.size wr W → W.cell? ⟨b, off + j, none⟩ = some (hv Ss[j]) := fun W hW => by rw [hW.cell (World.block_lt_of_cell? wr _ c1)]; exact c1
      have c2 := c1' w2 b12
      have hfin : Hid ((Os ++ [((some ⟨g2, 0, none⟩ : Option Addr), cap2, Ss[j].2.2)]).length = j + 1 ∧ SpI w Ss (.slice a3 (Os ++ [((some ⟨g2, 0, none⟩ : Option Addr), cap2, Ss[j].2.2)]).length c3) (Os ++ [(some ⟨g2, 0, none⟩, cap2, Ss[j].2.2)]) w3) := by
        refine ⟨by simp [q1], o3, by simp; omega, ?_, fun h hh => ?_, ?_⟩
        · simp only [List.length_append, List.length_cons, List.length_nil]
          unfold lsts at q4 ⊢
          rw [q1] at q4 ⊢
          rw [List.map_append, q4, List.take_succ_eq_append_getElem hjS, List.map_append]
          rfl
        · rcases List.mem_append.1 hh with hh | hh
          · exact (((q5 h hh).below b12).below ((Below.refl _ w2).alloc (Nat.le_refl _) _)).kept hOL g3
          · rw [List.mem_singleton] at hh
            subst hh
            have hs2 : Spd w2 w.heap.size (some ⟨g2, 0, none⟩, cap2, Ss[j].2.2) := ⟨g2, rfl, ownI_base o2 q6.size⟩
            exact (hs2.below ((Below.refl _ w2).alloc (Nat.le_refl _) _)).kept hOL g3
        · have hb3 := grown_below hOL g3 (by simp; omega)
          exact (q6.trans (b12.mono q6.size)).trans (((Below.refl _ w2).alloc hws _).trans hb3)
      obtain ⟨N3, hN3⟩ : ∃ N3, (Os ++ [((some ⟨g2, 0, none⟩ : Option Addr), cap2, Ss[j].2.2)]).length = N3 := ⟨_, rfl⟩
      rw [hN3] at e3
      have hlt' : Hid (j < n) := hlt
      have hN3' : Hid ((Os ++ [((some ⟨g2, 0, none⟩ : Option Addr), cap2, Ss[j].2.2)]).length = N3) := hN3
      generalize hxx : Ss[j] = x at *
      obtain ⟨xa, xc, xl⟩ := x
      simp only [hv] at c1 c2
      dsimp only at e1 e2 e3 hsl hfin hN3'
      clear hN3 c1' hOL o1 o2 o3 g3 b1 b2 b12 q1 q2 q3 q4 q5 q6 hQ hj hlt hsr hx hxl hcap hws hxx
      go_wp2_with (first
        | (at_builtin; refine Lib.wpList_append_run _ rfl _ _ _ _ rfl _ _ rfl rfl _ _ e1 ?_; clear e1)
        | (at_builtin; refine Lib.wpList_append_run _ rfl _ _ _ _ rfl _ _ rfl rfl _ _ e2 ?_; clear e2)
        | (at_builtin; refine Lib.wpList_append_run _ rfl _ _ _ _ rfl _ _ rfl rfl _ _ e3 ?_; clear e3))
      go_roundw
      case rel => exact ⟨j + 1, _, _, _, _, by simp, rfl, hlt'.out, hfin.out.1, by have := hfin.out.2; rw [hN3'.out] at this; exact this⟩
      case measure => have := hlt'.out; simp [intOf]; omega
    · have e : j = n := by omega
      subst e
      have j1 : ¬ (j : Int) < (j : Int) := by omega
      clear hj hlt
      go_wp2_with fail
      go_ret
      obtain ⟨q1, q2⟩ := hQ.out
      obtain ⟨a3, c3, e3, _⟩ := ownL_slice q2.1
      rw [e3] at q2
      exact ⟨a3, c3, Os, by rw [e3]; rfl, q2, q1⟩
end Go.Proofs.Ytdbhcemmaahemaa
