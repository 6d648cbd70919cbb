import Derived.Test.YtfpphhbpoaobfaaGreatDoorRdH
import Derived.Test.YtfpphhbpoaobfaaGreatDoorRoS
namespace Go.Proofs.YtfpphhbpoaobfaaGreatDoor
namespace Rd
open Go.RowKit Go.Shelf
open LdMath
open GSeM (SeqM StM range_m postM)
open Lr (PR RC pf chg okD dnB ChgTab GOwn GRow pV pV_len Kd PX RX rV rV_len append_gen)
attribute [local go_sem] Oper.semAt_some
set_option linter.unusedVariables false
set_option maxRecDepth 100000

/-- A record as it is handed out, and what it says. -/
def encR (x : RX) : Array Value := #[.agg #[.int .i64 x.1, .string (S x.2.1), .slice x.2.2.1 x.2.2.2.2.length x.2.2.2.1]]
def GR (x : RX) (B : Nat) (W : World) : Prop := GOwn 46 2 pV W B (.slice x.2.2.1 x.2.2.2.2.length x.2.2.2.1) x.2.2.2.2
abbrev Sr := Int × List UInt8 × List PR
def sr (x : RX) : Sr := (x.1, x.2.1, x.2.2.2.2)
def rr (r : Rc) : Sr := ((r.1 : Int), r.2.1, r.2.2)
/-- What a round leaves besides. -/
def KpR (W W' : World) : Prop := Kp W W' ∧ ∀ (k : Nat) (cs : Array Value), W.heap[k]? = some (.cells cs 52 (0, 0)) → W'.heap[k]? = some (.cells cs 52 (0, 0))
theorem sy_fst (x : X) : (sy x).1 = sr x.1 := rfl
theorem rsx_fst (r : Rc) : (rsx r).1 = rr r := rfl
theorem map_sy (l : List X) : (l.map sy).map Prod.fst = (l.map (·.1)).map sr := by rw [List.map_map, List.map_map]; rfl
theorem map_rsx (l : List Rc) : (l.map rsx).map Prod.fst = l.map rr := by rw [List.map_map]; rfl
theorem els_front {R : List Rc × Nat × Nat} {l : List X} (h : l.map sy <+: els R) (hz : ∀ x ∈ l, x.2.1 = 0) : (l.map (·.1)).map sr <+: R.1.map rr := by
  have h1 : l.map sy <+: R.1.map rsx := by
    by_cases h0 : R.2.1 = 0
    · rw [els_zero h0] at h; exact h
    · rw [els_bad h0] at h
      rcases List.prefix_concat_iff.1 h with e | e
      · have hm : (((0, [], []), R.2) : Sx) ∈ l.map sy := by rw [e]; simp
        obtain ⟨x, hx, he⟩ := List.mem_map.1 hm
        have h2 : x.2 = R.2 := congrArg Prod.snd he
        have h3 := hz x hx
        rw [h2] at h3
        exact absurd h3 h0
      · exact e
  have h2 := h1.map Prod.fst
  rw [map_sy, map_rsx] at h2
  exact h2
theorem els_whole {R : List Rc × Nat × Nat} {l : List X} {x : X} (h : (l ++ [x]).map sy <+: els R) (hx : x.2.1 ≠ 0) : (l.map (·.1)).map sr = R.1.map rr := by
  obtain ⟨e1, e2⟩ := els_last h hx
  rw [els_bad e2] at h
  have h1 : l.map sy = R.1.map rsx := by
    rcases List.prefix_concat_iff.1 h with e | e
    · rw [List.map_append] at e
      exact (List.append_inj' e rfl).1
    · have hm : sy x ∈ R.1.map rsx := e.subset (by simp)
      obtain ⟨r, _, he⟩ := List.mem_map.1 hm
      have h2 : ((0, 0) : Nat × Nat) = x.2 := congrArg Prod.snd he
      exact absurd (by rw [← h2]) hx
  rw [← map_sy, h1, map_rsx]
theorem els_done {R : List Rc × Nat × Nat} {l : List X} (h : l.map sy = els R) (hz : ∀ x ∈ l, x.2.1 = 0) : (l.map (·.1)).map sr = R.1.map rr := (els_all h hz).2
/-- What stands all along. -/
def RcI (l r0 : Nat) (J : List RX → World → Prop) (pre : List X) (W : World) : Prop := (∀ x ∈ pre, x.2.1 = 0) ∧ J (pre.map (·.1)) W ∧ W.heap[r0]? = some (.cells #[.func (.yield l) #[] #[]] 52 (0, 0))
def RcX (J Jx : List RX → World → Prop) (c : Code) (pre : List X) (W : World) : Prop := c = .ret ∧ ((∃ p x, pre = p ++ [x] ∧ x.2.1 ≠ 0 ∧ (∀ y ∈ p, y.2.1 = 0) ∧ J (p.map (·.1)) W) ∨ ((∀ x ∈ pre, x.2.1 = 0) ∧ Jx (pre.map (·.1)) W))
/-- What a round has in hand. -/
def RcA (l r0 sb : Nat) (s : ByteArray) (J : List RX → World → Prop) (R : List Rc × Nat × Nat) (pre : List X) (x : X) (B : Nat) (a' : Act) (W : World) : Prop :=
  ∃ q W00, a' = { tmps := #[.func (.yield l) #[] #[], .pointer (some ⟨sb, 0, none⟩), .pointer (some ⟨r0, 0, none⟩), .pointer (some ⟨q, 0, none⟩), .pointer (some ⟨q + 1, 0, none⟩), .string s, .func (.func 40) #[] #[.pointer (some ⟨r0 + 1, 0, none⟩)], .agg #[.int .i64 x.1.1, .string (S x.1.2.1), .slice x.1.2.2.1 x.1.2.2.2.2.length x.1.2.2.2.1], .agg #[.int .i64 (x.2.1 : Int), .int .i64 (x.2.2 : Int)], undef, undef, undef, undef, undef, undef, undef, undef, undef], defers := [] } ∧
    W.heap[q]? = some (.cells #[.int .i64 x.1.1, .string (S x.1.2.1), .slice x.1.2.2.1 x.1.2.2.2.2.length x.1.2.2.2.1] 36 (0, 0)) ∧ W.heap[q + 1]? = some (.cells #[.int .i64 (x.2.1 : Int), .int .i64 (x.2.2 : Int)] 56 (0, 0)) ∧ RcI l r0 J pre W ∧ J (pre.map (·.1)) W00 ∧ Mr r0 W00 W ∧ GR x.1 W00.heap.size W ∧ (pre ++ [x]).map sy <+: els R
theorem rcI_own {l r0 B : Nat} {J : List RX → World → Prop} (hJ : StM (Mr r0) J) (hB : r0 ≤ B) : OwnFrom B (RcI l r0 J) := fun pre W W' row h hg hr => ⟨h.1, hJ _ _ _ h.2.1 (Mr.of_grown hg (fun r e => ⟨Nat.le_trans hB (hr r e).1, (hr r e).2⟩)), own_cells hg hr _ _ _ h.2.2⟩
theorem rcI_mv {l r0 B : Nat} {J : List RX → World → Prop} (hJ : StM (Mr r0) J) (hB : r0 ≤ B) : StM (Mv B) (RcI l r0 J) := fun pre W W' h hm => ⟨h.1, hJ _ _ _ h.2.1 (Mr.of_mv hm hB), mv_cells hm _ _ _ (by decide) (by decide) h.2.2⟩
theorem rcX_own {r0 B : Nat} {J Jx : List RX → World → Prop} (hJ : StM (Mr r0) J) (hJx : StM (Mr r0) Jx) (hB : r0 ≤ B) (c : Code) : OwnFrom B (RcX J Jx c) := fun pre W W' row h hg hr => by
  have hm : Mr r0 W W' := Mr.of_grown hg (fun r e => ⟨Nat.le_trans hB (hr r e).1, (hr r e).2⟩)
  obtain ⟨h0, ⟨p, x, e1, e2, e3, h1⟩ | ⟨e1, h1⟩⟩ := h
  · exact ⟨h0, .inl ⟨p, x, e1, e2, e3, hJ _ _ _ h1 hm⟩⟩
  · exact ⟨h0, .inr ⟨e1, hJx _ _ _ h1 hm⟩⟩
theorem rcX_mv {r0 B : Nat} {J Jx : List RX → World → Prop} (hJ : StM (Mr r0) J) (hJx : StM (Mr r0) Jx) (hB : r0 ≤ B) (c : Code) : StM (Mv B) (RcX J Jx c) := fun pre W W' h hm0 => by
  have hm : Mr r0 W W' := Mr.of_mv hm0 hB
  obtain ⟨h0, ⟨p, x, e1, e2, e3, h1⟩ | ⟨e1, h1⟩⟩ := h
  · exact ⟨h0, .inl ⟨p, x, e1, e2, e3, hJ _ _ _ h1 hm⟩⟩
  · exact ⟨h0, .inr ⟨e1, hJx _ _ _ h1 hm⟩⟩
theorem rcA_own {l r0 sb B0 : Nat} {s : ByteArray} {J : List RX → World → Prop} {R : List Rc × Nat × Nat} (hJ : StM (Mr r0) J) (hB : r0 ≤ B0) (pre : List X) (x : X) (B : Nat) (a' : Act) : OwnFrom B0 (fun (_ : Unit) W => RcA l r0 sb s J R pre x B a' W) := by
  rintro _ W W' row ⟨q, W00, h1, h2, h3, h4, h5, h6, h7, h8⟩ hg hr
  exact ⟨q, W00, h1, own_cells hg hr _ _ _ h2, own_cells hg hr _ _ _ h3, rcI_own hJ hB _ _ _ _ h4 hg hr, h5, h6.trans (Mr.of_grown hg (fun r e => ⟨Nat.le_trans hB (hr r e).1, (hr r e).2⟩)), own_typ h7 (fun g cs hk => own_cells hg hr g cs _ hk), h8⟩
set_option maxRecDepth 1000000 in
set_option maxHeartbeats 8000000 in
theorem records_seq (nf : Nat) (hnf : 4 ≤ nf) (s : ByteArray) (hs : s.size ≤ 10485760) (sb : Nat) (w : World) (hsb : w.heap[sb]? = some (.cells #[.string s] 9 (0, 0))) (hWt : WTab w) (hCt : ChgTab w) :
    SeqR Fence.wide nf Tryz.prog 24 #[.pointer (some ⟨sb, 0, none⟩)] encR GR KpR (fun xs => xs.map sr = (rdT s.data.toList).1.map rr) (fun pre => pre.map sr <+: (rdT s.data.toList).1.map rr) 10485766 w := fun l J Jx W hW hJ hJx hY h0 => by
  obtain ⟨r0, hr0⟩ : ∃ r0, W.heap.size = r0 := ⟨_, rfl⟩
  have hbW : W.heap[sb]? = some (.cells #[.string s] 9 (0, 0)) := (hW.block sb (Array.getElem?_eq_some_iff.1 hsb).1).trans hsb
  obtain ⟨Wa, hWa⟩ : ∃ Wa, W.alloc (.cells #[.func (.yield l) #[] #[]] 52) = Wa := ⟨_, rfl⟩
  have hba : Below W.heap.size W Wa := by rw [← hWa]; exact (Below.refl _ _).alloc (Nat.le_refl _) _
  have hya : Wa.heap[r0]? = some (.cells #[.func (.yield l) #[] #[]] 52 (0, 0)) := by rw [← hWa, ← hr0]; exact heap_alloc_last W _
  have hsa : Wa.heap.size = r0 + 1 := by rw [← hWa, ← hr0]; simp
  have cS : Wa.cell? ⟨sb, 0, none⟩ = some (.string s) := row1 ((hba.block sb (Array.getElem?_eq_some_iff.1 hbW).1).trans hbW)
  have hRd : Hid (Calls Tryz.prog 23 #[.string s] Wa fun e w' => e = .returned (.func (.func 40) #[] #[.pointer (some ⟨r0 + 1, 0, none⟩)]) ∧ w' = Wa.alloc (.cells #[.string s] 9)) := by
    have := read_any s Wa
    rw [hsa] at this
    exact this
  obtain ⟨W0, hW0⟩ : ∃ W0, Wa.alloc (.cells #[.string s] 9) = W0 := ⟨_, rfl⟩
  have hb0 : Below Wa.heap.size Wa W0 := by rw [← hW0]; exact (Below.refl _ _).alloc (Nat.le_refl _) _
  have hb : Below W.heap.size W W0 := hba.trans (hb0.mono hba.size)
  have hy0 : W0.heap[r0]? = some (.cells #[.func (.yield l) #[] #[]] 52 (0, 0)) := (hb0.block r0 (by omega)).trans hya
  have hs0 : W0.heap[r0 + 1]? = some (.cells #[.string s] 9 (0, 0)) := by rw [← hW0, ← hsa]; exact heap_alloc_last Wa _
  have hsz : W0.heap.size = r0 + 2 := by rw [← hW0]; simp; omega
  have hW1 := hW.trans (hb.mono hW.size)
  have hWt0 := hWt.below hW1
  have hCt0 := hCt.below hW1
  have hTb : 3 < W0.heap.size ∧ 0 < W0.heap.size := ⟨wtab_lt hWt0, ctab_lt hCt0⟩
  have hseq := read_seq (nf - 1) (by omega) s hs (r0 + 1) W0 hs0 hWt0 hCt0
  rw [hr0] at hJ hJx hY
  have hJ0 : J [] W0 := hJ _ _ _ h0 (Mr.of_below hb)
  have hRe : Hid (Calls Tryz.prog 23 #[.string s] Wa fun e w' => e = .returned (.func (.func 40) #[] #[.pointer (some ⟨r0 + 1, 0, none⟩)]) ∧ W0 = w') := hRd.out.mono (fun e w' h => ⟨h.1, by rw [h.2, hW0]⟩)
  refine callsIn_of_wp_marks Tryz.func24 rfl trivial ?_ rfl
  simp only [Tryz.ntmps24, List.size_toArray, List.length_cons, List.length_nil, Nat.reduceAdd, Nat.reduceSub, Array.replicate_succ, Array.replicate_zero, List.push_toArray, List.append_toArray, List.nil_append, List.cons_append]
  have hK1 : Hid (W.heap.size = r0) := hr0
  have hkeep : Hid (StM (Mr r0) J ∧ StM (Mr r0) Jx ∧ J [] W0 ∧ W0.heap.size = r0 + 2 ∧ W0.heap[r0]? = some (.cells #[.func (.yield l) #[] #[]] 52 (0, 0)) ∧ (3 < W0.heap.size ∧ 0 < W0.heap.size)) := ⟨hJ, hJx, hJ0, hsz, hy0, hTb⟩
  have hYh : Hid (∀ pre x W0 W1, J pre W0 → Mr r0 W0 W1 → GR x W0.heap.size W1 → (pre ++ [x]).map sr <+: (rdT s.data.toList).1.map rr → pre.length < 10485766 → YieldAt Fence.wide (nf - 1) Tryz.prog l (encR x) W1 fun e W' => (KeepsFrom r0 W1 W' ∧ KpR W1 W') ∧ ((e = .returned (.bool true) ∧ J (pre ++ [x]) W') ∨ (e = .returned (.bool false) ∧ Jx (pre ++ [x]) W'))) := hY
  have hsq : Hid (SeqM Fence.wide (nf - 1) Tryz.prog 40 #[.pointer (some ⟨r0 + 1, 0, none⟩)] encX GX (Mv W0.heap.size) Kp (fun xs => xs.map sy = els (rdT s.data.toList)) (fun pre => pre.map sy <+: els (rdT s.data.toList)) 10485766 W0) := hseq
  clear hRd hba hya hsa hb0 hb hy0 hs0 hsz hW1 hWt0 hCt0 hTb hseq hJ0 hJ hJx hY hWt hCt hW hbW hsb h0 hs hW0
  have hnf1 : 1 ≤ nf := by omega
  have hnf' : Hid (4 ≤ nf) := hnf
  clear hnf hr0
  gi_wp2_with (refine ⟨trivial, ?_⟩; gi_at_call 23; refine (callsIn_wide.2 hRe.out).mono ?_; rintro e w' ⟨rfl, rfl⟩)
  rw [hK1.out]
  clear hRe cS hWa
  obtain ⟨hJ, hJx, hJ0, hsz, hy0, hTb⟩ := hkeep.out
  refine range_m rfl (by omega) (gf := 40) (lb := #[.pointer (some ⟨r0 + 1, 0, none⟩)]) rfl trivial (enters_of Tryz.func40 (by kernel_rfl) rfl)
    hsq.out Kp.trans (kp_put0 hTb) (Below.refl _ _) (fun _ => rfl)
    (RcI l r0 J) (RcX J Jx) (rcI_own hJ (by omega)) (rcX_own hJ hJx (by omega)) (rcI_mv hJ (by omega)) (rcX_mv hJ hJx (by omega)) (fun A B h k o hk ho => h.2.2 k o hk (.inr (fun ⟨cs, hc⟩ => by rcases hc with rfl | rfl <;> cases ho))) ⟨fun x hx => by simp at hx, hJ0, hy0⟩
    (RcA l r0 sb s J (rdT s.data.toList)) (fun pre x B a' => rcA_own hJ (by omega) pre x B a') ?assign ?body ?done ?stop
  case assign =>
    rintro l' pre x Wp W1 K hIa hmv hI hG hSp hlen hwl hK
    have hK' : Hid (∀ a' W', KeepsFrom W0.heap.size W1 W' → Kp W1 W' → RcA l r0 sb s J (rdT s.data.toList) pre x Wp.heap.size a' W' → K a' W') := hK
    obtain ⟨W2, hW2⟩ : ∃ W2, (W1.alloc (.cells #[.int .i64 x.1.1, .string (S x.1.2.1), .slice x.1.2.2.1 x.1.2.2.2.2.length x.1.2.2.2.1] 36)).alloc (.cells #[.int .i64 (x.2.1 : Int), .int .i64 (x.2.2 : Int)] 56) = W2 := ⟨_, rfl⟩
    have b2 : Below W1.heap.size W1 W2 := by rw [← hW2]; exact ((Below.refl _ _).alloc (Nat.le_refl _) _).alloc (by simp) _
    have k1 : W2.heap[W1.heap.size]? = some (.cells #[.int .i64 x.1.1, .string (S x.1.2.1), .slice x.1.2.2.1 x.1.2.2.2.2.length x.1.2.2.2.1] 36 (0, 0)) := by rw [← hW2, Below.heap_alloc _ _ _ (by simp)]; exact heap_alloc_last W1 _
    have k2 : W2.heap[W1.heap.size + 1]? = some (.cells #[.int .i64 (x.2.1 : Int), .int .i64 (x.2.2 : Int)] 56 (0, 0)) := by
      rw [← hW2]
      have h := heap_alloc_last (W1.alloc (.cells #[.int .i64 x.1.1, .string (S x.1.2.1), .slice x.1.2.2.1 x.1.2.2.2.2.length x.1.2.2.2.1] 36)) (.cells #[.int .i64 (x.2.1 : Int), .int .i64 (x.2.2 : Int)] 56)
      simp only [World.size_alloc] at h
      exact h
    have hWs : W0.heap.size ≤ W1.heap.size := Nat.le_trans hwl hmv.2.1
    have st : ∀ (k : Nat) (o : Obj), W1.heap[k]? = some o → W2.heap[k]? = some o := fun k o hk => (b2.block k (Array.getElem?_eq_some_iff.1 hk).1).trans hk
    have hfin : Hid (KeepsFrom W0.heap.size W1 W2 ∧ Kp W1 W2 ∧ (W2.heap[W1.heap.size]? = some (.cells #[.int .i64 x.1.1, .string (S x.1.2.1), .slice x.1.2.2.1 x.1.2.2.2.2.length x.1.2.2.2.1] 36 (0, 0)) ∧ W2.heap[W1.heap.size + 1]? = some (.cells #[.int .i64 (x.2.1 : Int), .int .i64 (x.2.2 : Int)] 56 (0, 0)) ∧ RcI l r0 J pre W2 ∧ J (pre.map (·.1)) Wp ∧ Mr r0 Wp W2 ∧ GR x.1 Wp.heap.size W2 ∧ (pre ++ [x]).map sy <+: els (rdT s.data.toList))) := by
      refine ⟨⟨b2.size, fun k o _ hk _ => st k o hk⟩, ⟨b2.size, fun k hk => b2.block k (by rcases hk with rfl | rfl <;> omega), fun k cs t _ hk => st k _ hk⟩, k1, k2, ⟨hI.1, hJ _ _ _ hI.2.1 (Mr.of_below b2), st _ _ hI.2.2⟩, hIa.2.1, (Mr.of_mv hmv (by omega)).trans (Mr.of_below b2), own_typ hG (fun g cs hk => st g _ hk), hSp⟩
    clear hK hIa hmv hI hG hSp hlen hwl b2 k1 k2 hWs st hsq hkeep hYh hJ hJx hJ0 hsz hy0 hTb hnf1
    dsimp only [encX]
    gi_wp2
    obtain ⟨f1, f2, f3⟩ := hfin.out
    exact hK'.out _ _ f1 f2 ⟨W1.heap.size, Wp, rfl, f3⟩
  case body =>
    rintro l' pre x B a' W1 hl' hlr ⟨q, W00, rfl, hq1, hq2, hI, hj0, hmr, hG, hSp⟩ hlen
    have e0 : W1.cell? ⟨q + 1, 0, none⟩ = some (.int .i64 (x.2.1 : Int)) := by rw [cell_of_row _ _ _ _ _ _ hq2]; rfl
    have d0 : W1.cell? ⟨q, 0, none⟩ = some (.int .i64 x.1.1) := by rw [cell_of_row _ _ _ _ _ _ hq1]; rfl
    have d1 : W1.cell? ⟨q, 1, none⟩ = some (.string (S x.1.2.1)) := by rw [cell_of_row _ _ _ _ _ _ hq1]; rfl
    have d2 : W1.cell? ⟨q, 2, none⟩ = some (.slice x.1.2.2.1 x.1.2.2.2.2.length x.1.2.2.2.1) := by rw [cell_of_row _ _ _ _ _ _ hq1]; rfl
    have cY : W1.cell? ⟨r0, 0, none⟩ = some (.func (.yield l) #[] #[]) := row1 hI.2.2
    by_cases hx : x.2.1 = 0
    · have hz : ∀ y ∈ pre ++ [x], y.2.1 = 0 := fun y hy => by
        rcases List.mem_append.1 hy with h | h
        · exact hI.1 y h
        · rw [List.mem_singleton.1 h]; exact hx
      have hmp : (pre ++ [x]).map (·.1) = pre.map (·.1) ++ [x.1] := by simp
      have hfr := els_front hSp hz
      rw [hmp] at hfr
      obtain ⟨fn, tmps, assign, body, hy, hR⟩ := yield_at (m' := nf - 1 - 1 - 1) (hYh.out (pre.map (·.1)) x.1 W00 W1 hj0 hmr hG hfr (by simpa using hlen))
      have hR' : RoundIn (Fence.wide.inRound l') (nf - 1 - 1 - 1) Tryz.prog l fn tmps assign body W1 (fun e W' => (KeepsFrom r0 W1 W' ∧ KpR W1 W') ∧ ((e = .returned (.bool true) ∧ J (pre.map (·.1) ++ [x.1]) W') ∨ (e = .returned (.bool false) ∧ Jx (pre.map (·.1) ++ [x.1]) W'))) := hR
      dsimp only [encR] at hy
      have e0' : W1.cell? ⟨q + 1, 0, none⟩ = some (.int .i64 0) := by rw [e0, hx]; rfl
      have hfin : Hid ((∀ W3, KeepsFrom r0 W1 W3 → KpR W1 W3 → J (pre.map (·.1) ++ [x.1]) W3 → KeepsFrom W0.heap.size W1 W3 ∧ Kp W1 W3 ∧ RcI l r0 J (pre ++ [x]) W3) ∧ (∀ W3, KeepsFrom r0 W1 W3 → KpR W1 W3 → Jx (pre.map (·.1) ++ [x.1]) W3 → KeepsFrom W0.heap.size W1 W3 ∧ Kp W1 W3 ∧ RcX J Jx .ret (pre ++ [x]) W3)) := by
        refine ⟨fun W3 a b c => ⟨keeps_mono a (by omega), b.1, hz, by rw [hmp]; exact c, b.2 _ _ hI.2.2⟩, fun W3 a b c => ⟨keeps_mono a (by omega), b.1, rfl, .inr ⟨hz, by rw [hmp]; exact c⟩⟩⟩
      generalize S x.1.2.1 = N at *
      generalize x.1.2.2.2.2.length = pn at *
      generalize (x.2.1 : Int) = z1 at *
      generalize (x.2.2 : Int) = z2 at *
      clear hR hfr hz hmp hI hj0 hmr hG hSp hlen hl' hlr hq1 hq2 hsq hkeep hYh hJ hJx hJ0 hsz hy0 hTb e0 hx
      gi_wp2
      refine ⟨fun h => (by cases h), ?_⟩
      refine hR'.mono ?_
      clear hR' hy
      rintro e W3 ⟨⟨hkf, hkp⟩, (⟨rfl, hJ3⟩ | ⟨rfl, hJx3⟩)⟩
      · have hf := hfin.out.1 W3 hkf hkp hJ3
        have hf' : Hid _ := hf
        clear hf hkf hkp hJ3 hfin d0 d1 d2 cY e0'
        gi_wp2
        exact hf'.out
      · have hf := hfin.out.2 W3 hkf hkp hJx3
        have hf' : Hid _ := hf
        clear hf hkf hkp hJx3 hfin d0 d1 d2 cY e0'
        gi_wp2
        exact hf'.out
    · have hb0 : ((x.2.1 : Int) != 0) = true := by simp only [bne_iff_ne, ne_eq]; omega
      have hfin : Hid (KeepsFrom W0.heap.size W1 W1 ∧ Kp W1 W1 ∧ RcX J Jx .ret (pre ++ [x]) W1) := ⟨⟨Nat.le_refl _, fun k o _ hk _ => hk⟩, Kp.refl _, rfl, .inl ⟨pre, x, rfl, hx, hI.1, hI.2.1⟩⟩
      generalize S x.1.2.1 = N at *
      generalize x.1.2.2.2.2.length = pn at *
      generalize (x.2.1 : Int) = z1 at *
      generalize (x.2.2 : Int) = z2 at *
      clear hI hj0 hmr hG hSp hlen hl' hlr hq1 hq2 hsq hkeep hYh hJ hJx hJ0 hsz hy0 hTb hx
      gi_wp2
      refine ⟨fun f h => (by cases h), ?_⟩
      gi_wp2
      exact hfin.out
  case done =>
    rintro D xs W3 hD hS ⟨hz, hj, _⟩ hK
    have hfin : Hid ((xs.map (·.1)).map sr = (rdT s.data.toList).1.map rr ∧ J (xs.map (·.1)) (W3.putObj D (.deferred none))) := ⟨els_done hS hz, (str_own hJ).putObj _ hj (by omega) hK rfl⟩
    have hK' : Hid (W3.heap[D]? = some (.deferred (some []))) := hK
    clear hz hj hS hD hK hsq hkeep hYh hJ hJx hJ0 hsz hy0 hTb
    gi_wp2
    refine ⟨by simp, .inl ⟨_, _, rfl, run_takeDeferred hK'.out, ?_⟩⟩
    exact ⟨_, results_none rfl _ _ _, ⟨_, rfl⟩, .inl ⟨_, hfin.out.1, hfin.out.2⟩⟩
  case stop =>
    rintro D c pre W3 hD hSp ⟨rfl, hx⟩ hK
    have hfin : Hid ((∃ xs, xs.map sr = (rdT s.data.toList).1.map rr ∧ J xs (W3.putObj D (.deferred none))) ∨ (∃ p, p.map sr <+: (rdT s.data.toList).1.map rr ∧ Jx p (W3.putObj D (.deferred none)))) := by
      rcases hx with ⟨p, x, rfl, h1, h2, h3⟩ | ⟨h1, h2⟩
      · exact .inl ⟨_, els_whole hSp h1, (str_own hJ).putObj _ h3 (by omega) hK rfl⟩
      · exact .inr ⟨_, els_front hSp h1, (str_own hJx).putObj _ h2 (by omega) hK rfl⟩
    have hK' : Hid (W3.heap[D]? = some (.deferred (some []))) := hK
    clear hx hSp hD hK hsq hkeep hYh hJ hJx hJ0 hsz hy0 hTb
    gi_wp2
    refine ⟨by simp, .inl ⟨_, _, rfl, run_takeDeferred hK'.out, ?_⟩⟩
    exact ⟨_, results_none rfl _ _ _, ⟨_, rfl⟩, hfin.out⟩
end Rd
end Go.Proofs.YtfpphhbpoaobfaaGreatDoor
