import Derived.Test.YthpfnajgbocpnaaPtRIn
namespace Go.Proofs.Ythpfnajgbocpnaa
namespace Pt
open Go.RowKit Go.Sort Go.Lib
open PtMath (Inc setOf cnt)
open PtHpM (Hd)
open PtCnM (occ)
set_option linter.unusedVariables false
set_option maxRecDepth 100000
open PtT (Rk TB en)
variable {Tk : PtT.Rk}

theorem rd_lit (W : World) (L : List Nat) (t : TypeId) (h : L.length ≤ 64) : Rd Tk (W.alloc (.cells (iv Tk L).toArray t)) (some ⟨W.heap.size, 0, none⟩) L.length L := by
  refine ⟨fun i hi => ⟨W.heap.size, 0, rfl, ?_⟩, Nat.le_refl _, by unfold maxLen; omega, by omega⟩
  have h1 : (W.alloc (.cells (iv Tk L).toArray t)).heap[W.heap.size]? = some (.cells (iv Tk L).toArray t (0, 0)) := heap_alloc_new _ _
  rw [Nat.zero_add, cell_of_row _ _ _ _ _ _ h1]
  simp [iv, hi]
/-- What the first loop has laid. -/
def RA (Tk : PtT.Rk) (w : World) (Ss : List Hd) (va vs : Value) (A : List Nat) (Qs : List Hd) (W : World) : Prop :=
  OwnI Tk W w.heap.size va A ∧ OwnL W w.heap.size vs Qs ∧ lsts Qs = (lsts (Ss.take Qs.length)).map setOf ∧ A = (lsts Qs).flatten ∧ Qs.length ≤ Ss.length ∧
  (∀ h ∈ Qs, OwnI Tk W w.heap.size (hv h) h.2.2 ∧ ∀ k, va.ownBlock = some k → (hv h).ownBlock ≠ some k) ∧ Below w.heap.size w W
theorem ra_len {w : World} {Ss : List Hd} {va vs : Value} {A : List Nat} {Qs : List Hd} {W : World} (h : RA Tk w Ss va vs A Qs W) : A.length ≤ tot (lsts Ss) := by
  obtain ⟨_, _, h3, h4, _⟩ := h
  rw [h4, List.length_flatten, h3]
  have h5 : ((lsts (Ss.take Qs.length)).map setOf).map List.length = ((lsts (Ss.take Qs.length)).map fun l => (setOf l).length) := by rw [List.map_map]; rfl
  have h6 : lsts (Ss.take Qs.length) = (lsts Ss).take Qs.length := by unfold lsts; rw [List.map_take]
  have h7 : ∀ E : List (List Nat), (E.map fun l => (setOf l).length).sum ≤ tot E := fun E => by
    unfold tot
    induction E with
    | nil => simp
    | cons l E ih => simp only [List.map_cons, List.sum_cons]; have := PtMath.setOf_len l; omega
  have h8 : tot ((lsts Ss).take Qs.length) ≤ tot (lsts Ss) := by
    have e : tot (lsts Ss) = tot ((lsts Ss).take Qs.length) + tot ((lsts Ss).drop Qs.length) := by
      unfold tot
      rw [← List.sum_append, ← List.map_append, List.take_append_drop]
    omega
  rw [h5, h6]
  have := h7 ((lsts Ss).take Qs.length)
  omega
theorem ra_step {w : World} {Ss : List Hd} {va vs v2 v3 : Value} {A : List Nat} {Qs : List Hd} {W w1 w2 w3 : World} {a1 : Option Addr} {c1 : Nat} (h : RA Tk w Ss va vs A Qs W) (hk : Qs.length < Ss.length)
    (o1 : OwnI Tk w1 W.heap.size (.slice a1 (setOf Ss[Qs.length].2.2).length c1) (setOf Ss[Qs.length].2.2)) (b1 : Below W.heap.size W w1) {o : Obj}
    (o2 : OwnL w2 w.heap.size v2 (Qs ++ [(a1, c1, setOf Ss[Qs.length].2.2)])) (g2 : (w1.alloc o).grownBy w2 vs.ownBlock)
    (o3 : OwnI Tk w3 w.heap.size v3 (A ++ setOf Ss[Qs.length].2.2)) (g3 : w2.grownBy w3 va.ownBlock) (k3 : v3.ownBlock = va.ownBlock ∨ v3.ownBlock = some w2.heap.size) :
    RA Tk w Ss v3 v2 (A ++ setOf Ss[Qs.length].2.2) (Qs ++ [(a1, c1, setOf Ss[Qs.length].2.2)]) w3 := by
  obtain ⟨h1, h2, h3, h4, h5, h6, h7⟩ := h
  have ba : Below w1.heap.size w1 (w1.alloc o) := (Below.refl _ _).alloc (Nat.le_refl _) _
  have hL1 : OwnL (w1.alloc o) w.heap.size vs Qs := ownL_below (ownL_below h2 b1) ba
  have hva2 : OwnI Tk w2 w.heap.size va A := ownI_keptL (ownI_below (ownI_below h1 b1) ba) hL1 g2
  have hkeep : ∀ (v : Value) (l : List Nat), OwnI Tk w1 w.heap.size v l → (∀ k, va.ownBlock = some k → v.ownBlock ≠ some k) → OwnI Tk w3 w.heap.size v l := fun v l q1 q2 => by
    have r2 := ownI_keptL (ownI_below q1 ba) hL1 g2
    refine World.ownsRow.kept r2 g3 ?_
    cases e : v.ownBlock with
    | none => exact Or.inl rfl
    | some k => exact Or.inr (fun e' => q2 k e'.symm e)
  have hnew : ∀ (v : Value) (l : List Nat), OwnI Tk w1 w.heap.size v l → (∀ k, va.ownBlock = some k → v.ownBlock ≠ some k) → ∀ k, v3.ownBlock = some k → v.ownBlock ≠ some k := fun v l q1 q2 k e e' => by
    rcases k3 with k3 | k3
    · exact q2 k (by rw [← k3]; exact e) e'
    · rw [k3] at e
      injection e with e
      have h9 := (ownI_at q1 e').2
      have h10 := g2.size
      simp at h10
      omega
  refine ⟨o3, ownL_keptI o2 hva2 g3, ?_, ?_, by simp; omega, fun x hx => ?_, ?_⟩
  · simp only [List.length_append, List.length_cons, List.length_nil]
    unfold lsts at h3 ⊢
    rw [List.map_append, h3, List.take_succ_eq_append_getElem hk, List.map_append, List.map_append]
    rfl
  · unfold lsts at h4 ⊢
    rw [List.map_append, List.flatten_append, h4]
    simp
  · rcases List.mem_append.1 hx with hx | hx
    · obtain ⟨q1, q2⟩ := h6 x hx
      exact ⟨hkeep _ _ (ownI_below q1 b1) q2, hnew _ _ (ownI_below q1 b1) q2⟩
    · rw [List.mem_singleton] at hx
      subst hx
      have q1 : OwnI Tk w1 w.heap.size (hv (a1, c1, setOf Ss[Qs.length].2.2)) (setOf Ss[Qs.length].2.2) := ownI_base o1 h7.size
      have q2 : ∀ k, va.ownBlock = some k → (hv (a1, c1, setOf Ss[Qs.length].2.2)).ownBlock ≠ some k := fun k e e' => by
        have r1 := (ownI_at h1 e).2
        have r2 := (ownI_at o1 e').1
        omega
      exact ⟨hkeep _ _ q1 q2, hnew _ _ q1 q2⟩
  · have hb2 : Below w.heap.size (w1.alloc o) w2 := grown_below hL1 g2 (by have := h7.size; have := b1.size; simp; omega)
    have hb3 : Below w.heap.size w2 w3 := (Below.refl _ _).grown g3 (by have := h7.size; have := b1.size; have := hb2.size; simp at this; omega) (fun k e => (ownI_at hva2 e).1)
    exact ((h7.trans (b1.mono h7.size)).trans (ba.mono (by have := h7.size; have := b1.size; omega))).trans (hb2.trans hb3)
/-- In how many of the first j sets. -/
theorem occ_take (D : List (List Nat)) (j : Nat) (h : j < D.length) (x : Nat) : occ (D.take (j + 1)) x = occ (D.take j) x + (if x ∈ D[j] then 1 else 0) := by
  rw [List.take_succ_eq_append_getElem h]
  unfold PtCnM.occ
  rw [List.countP_append]
  simp [List.countP_cons]
theorem ra_out {D : List (List Nat)} {k : Int} : AtlIs k D ((setOf (D.map setOf).flatten).filter fun x => decide (k ≤ (occ (D.map setOf) x : Int))) := by
  refine ⟨List.Pairwise.sublist List.filter_sublist (PtMath.setOf_inc _), fun x => ?_⟩
  rw [List.mem_filter, PtMath.setOf_mem, decide_eq_true_eq, occ_set, List.mem_flatten]
  have e : (∃ l, l ∈ D.map setOf ∧ x ∈ l) ↔ 0 < occ D x := by rw [← occ_set D x, PtCnM.occ_pos]
  rw [e]
  exact And.comm

set_option maxRecDepth 1000000 in
set_option maxHeartbeats 4000000 in
theorem rAtLeast_any (kk : Int) (sa : Option Addr) (Ss : List Hd) (sc : Nat) (w : World) (hr : SRow w sa Ss) (hok : ∀ x ∈ Ss, Rd Tk w x.1 x.2.1 x.2.2) (ht : tot (lsts Ss) + Ss.length ≤ 4194304) :
    Calls Try.prog 10 #[.int .i64 kk, .slice sa Ss.length sc] w fun e w' => ∃ v M, e = .returned v ∧ OwnI Tk w' w.heap.size v M ∧ AtlIs kk (lsts Ss) M ∧ Below w.heap.size w w' := by
  have hS : Hid (SRow w sa Ss ∧ (∀ x ∈ Ss, Rd Tk w x.1 x.2.1 x.2.2) ∧ tot (lsts Ss) + Ss.length ≤ 4194304) := ⟨hr, hok, ht⟩
  have sb : (Ss.length : Int) ≤ 4194304 := by omega
  obtain ⟨n, hn⟩ : ∃ n, Ss.length = n := ⟨_, rfl⟩
  rw [hn] at sb ⊢
  have hn' : Hid (Ss.length = n) := hn
  clear hr hok ht hn
  go_enter Try.func10, Try.ntmps10
  go_wp2_with fail
  go_loopw [5, 6, 7] (fun va vs ivv wr => ∃ (j : Nat) (A : List Nat) (Qs : List Hd) (oa pa : Option Addr) (on oc pn pc : Nat), ivv = .int .i64 (j : Int) ∧ va = .slice oa on oc ∧ vs = .slice pa pn pc ∧ j ≤ n ∧ Hid (Qs.length = j ∧ RA Tk w Ss (.slice oa on oc) (.slice pa pn pc) A Qs wr)) (fun _ _ ivv _ => n - (intOf ivv).toNat)
  case atStart => exact ⟨0, [], [], none, none, 0, 0, 0, 0, rfl, rfl, rfl, Nat.zero_le _, rfl, ownI_nil _ _, ownL_nil _ _, by simp [lsts], by simp [lsts], Nat.zero_le _, fun h hh => by simp at hh, Below.refl _ _⟩
  case round =>
    obtain ⟨j, A, Qs, oa, pa, on, oc, pn, pc, rfl, rfl, rfl, hj, hQ⟩ := hrel
    have j0 : (0 : Int) ≤ (j : Int) := Int.natCast_nonneg _
    by_cases hlt : j < n
    · have j1 : (j : Int) < (n : Int) := Int.ofNat_lt.2 hlt
      have hjS : j < Ss.length := by rw [hn'.out]; exact hlt
      have hBw := hQ.out.2.2.2.2.2.2.2
      obtain ⟨b, off, rfl, c1⟩ := (hS.out.1.below hBw) j hjS
      have hx := (hS.out.2.1 _ (List.getElem_mem hjS)).below hBw
      have hxl : Ss[j].2.2.length ≤ 4194304 := by
        have := tot_take (lsts Ss) (List.mem_map_of_mem (List.getElem_mem hjS))
        have := hS.out.2.2
        omega
      have hSo := sorted_any Ss[j].2.2.length Ss[j].1 Ss[j].2.2 Ss[j].2.1 wr (Nat.le_refl _) hx.1 hx.2.1 (by omega)
      have hgo : Hid (∀ w1 a1 c1, OwnI Tk w1 wr.heap.size (.slice a1 (setOf Ss[j].2.2).length c1) (setOf Ss[j].2.2) → Below wr.heap.size wr w1 →
          ∃ a2 n2 c2 w2 a3 n3 c3 w3, (Builtin.append_ #[22, 22] 22 #[.slice pa pn pc, .slice (some ⟨w1.heap.size, 0, none⟩) 1 1]).run Try.prog (w1.alloc (.cells #[.slice a1 (setOf Ss[j].2.2).length c1] 23)) = .ok (.slice a2 n2 c2) w2 ∧
            (Builtin.append_ #[23, 23] 23 #[.slice oa on oc, .slice a1 (setOf Ss[j].2.2).length c1]).run Try.prog w2 = .ok (.slice a3 n3 c3) w3 ∧
            (Qs ++ [(a1, c1, setOf Ss[j].2.2)]).length = j + 1 ∧ RA Tk w Ss (.slice a3 n3 c3) (.slice a2 n2 c2) (A ++ setOf Ss[j].2.2) (Qs ++ [(a1, c1, setOf Ss[j].2.2)]) w3) := fun w1 a1 c1 o1 b1 => by
        obtain ⟨q1, q2⟩ := hQ.out
        have hlenA := ra_len q2
        have hsl := PtMath.setOf_len Ss[j].2.2
        have htt := hS.out.2.2
        have hws := hBw.size
        have hw1 := b1.size
        have hL1 : OwnL (w1.alloc (.cells #[.slice a1 (setOf Ss[j].2.2).length c1] 23)) w.heap.size (.slice pa pn pc) Qs := ownL_below (ownL_below q2.2.1 b1) ((Below.refl _ _).alloc (Nat.le_refl _) _)
        obtain ⟨v2, w2, e2, o2, g2⟩ := appendL_row (w1.alloc (.cells #[.slice a1 (setOf Ss[j].2.2).length c1] 23)) w.heap.size (.slice pa pn pc) Qs [(a1, c1, setOf Ss[j].2.2)] (some ⟨w1.heap.size, 0, none⟩) 1 hL1 (srow_lit w1 [(a1, c1, setOf Ss[j].2.2)] 23) (by simp; omega) (by simp; omega)
        have hva2 : OwnI Tk w2 w.heap.size (.slice oa on oc) A := ownI_keptL (ownI_below (ownI_below q2.1 b1) ((Below.refl _ _).alloc (Nat.le_refl _) _)) hL1 g2
        have hs2 : OwnI Tk w2 wr.heap.size (.slice a1 (setOf Ss[j].2.2).length c1) (setOf Ss[j].2.2) := ownI_keptL (ownI_below o1 ((Below.refl _ _).alloc (Nat.le_refl _) _)) hL1 g2
        have hsz2 := g2.size
        obtain ⟨v3, w3, e3, o3, g3, k3⟩ := appendI_row3 w2 w.heap.size (.slice oa on oc) A (setOf Ss[j].2.2) a1 c1 hva2 (ownI_row hs2).1 (by simp at hsz2; omega) (by omega)
        obtain ⟨a2, c2, rfl, _⟩ := ownL_slice o2
        obtain ⟨a3, n3, c3, rfl⟩ := ownI_slice o3
        subst q1
        exact ⟨a2, _, c2, w2, a3, n3, c3, w3, e2, e3, by simp, ra_step q2 hjS o1 b1 o2 g2 o3 g3 k3⟩
      have hlt' : Hid (j < n) := hlt
      generalize hxx : Ss[j] = x at *
      obtain ⟨xa, xc, xl⟩ := x
      simp only [hv] at c1
      dsimp only at hSo hgo
      clear hQ hj hlt hjS hBw hx hxl hxx
      go_wp2_with (first
        | (go_at_call 6; refine hSo.mono ?_; rintro e w1 ⟨v1, rfl, o1, b1⟩; obtain ⟨a1, n1, c2, rfl⟩ := ownI_slice o1; obtain ⟨_, rfl⟩ := ownI_row o1; obtain ⟨a2, n2, c3, w2, a3, n3, c4, w3, e2, e3, hl3, hR3⟩ := hgo.out w1 a1 c2 o1 b1; have hR3' : Hid ((Qs ++ [(a1, c2, setOf xl)]).length = j + 1 ∧ RA Tk w Ss (.slice a3 n3 c4) (.slice a2 n2 c3) (A ++ setOf xl) (Qs ++ [(a1, c2, setOf xl)]) w3) := ⟨hl3, hR3⟩; clear o1 b1 hl3 hR3)
        | (at_builtin; refine Lib.wpList_append_run _ rfl _ _ _ _ rfl _ _ rfl rfl _ _ e2 ?_; clear e2)
        | (at_builtin; refine Lib.wpList_append_run _ rfl _ _ _ _ rfl _ _ rfl rfl _ _ e3 ?_; clear e3))
      go_roundw
      case rel => exact ⟨j + 1, _, _, _, _, _, _, _, _, by simp, rfl, rfl, hlt'.out, hR3'⟩
      case measure => have := hlt'.out; simp [intOf]; omega
    · have e : j = n := by omega
      subst e
      have j1 : ¬ (j : Int) < (j : Int) := by omega
      clear hj hlt
      obtain ⟨q1, q2⟩ := hQ.out
      have hlenA := ra_len q2
      have htt := hS.out.2.2
      obtain ⟨r1, r2, r3, r4, r5, r6, r7⟩ := q2
      obtain ⟨pa', pc', epa, s1, s2, s3⟩ := ownL_slice r2
      injection epa with ep1 ep2 ep3
      subst ep1 ep2 ep3
      obtain ⟨_, rfl⟩ := ownI_row r1
      have hocap : A.length ≤ oc := by
        rcases ownI_form r1 with ⟨e1, e2⟩ | ⟨g, cap, e1, e2, _⟩
        · rw [e2]; simp
        · injection e1 with _ _ e1; omega
      have hSo := sorted_any A.length oa A oc wr (Nat.le_refl _) (ownI_row r1).1 hocap (by omega)
      have hD : lsts Qs = (lsts Ss).map setOf := by rw [r3, q1, ← hn'.out, List.take_length]
      have hK : Hid (lsts Qs = (lsts Ss).map setOf ∧ A = (lsts Qs).flatten ∧ SRow wr pa Qs ∧ (∀ h ∈ Qs, Rd Tk wr h.1 h.2.1 h.2.2 ∧ Inc h.2.2) ∧ Below w.heap.size w wr ∧ (setOf A).length ≤ 4194304) := by
        refine ⟨hD, r4, s1, fun h hh => ⟨Rd.of_own (r6 h hh).1 ?_, ?_⟩, r7, by have := PtMath.setOf_len A; omega⟩
        · have h1 := tot_take (lsts Qs) (List.mem_map_of_mem (f := fun h : Hd => h.2.2) hh)
          have h2 := tot_set (lsts Ss)
          rw [hD] at h1
          omega
        · have h1 : h.2.2 ∈ lsts Qs := List.mem_map_of_mem hh
          rw [hD] at h1
          obtain ⟨l, _, e⟩ := List.mem_map.1 h1
          rw [← e]
          exact PtMath.setOf_inc l
      have hqn : Hid (Qs.length = j) := q1
      obtain ⟨m, hm⟩ : ∃ m, Qs.length = m := ⟨_, rfl⟩
      rw [hm] at q1
      have hm' : Hid (Qs.length = m) := hm
      simp only [hm]
      have mb : (m : Int) ≤ 4194304 := by omega
      clear r1 r2 r3 r4 r5 r6 r7 s1 s2 s3 hocap hD hQ hlenA htt hm q1
      go_wp2_with (go_at_call 6; refine hSo.mono ?_; rintro e w4 ⟨v4, rfl, o4, b4⟩; obtain ⟨a4, n4, c4, rfl⟩ := ownI_slice o4; obtain ⟨_, rfl⟩ := ownI_row o4)
      obtain ⟨Z, hZ⟩ : ∃ Z, setOf A = Z := ⟨_, rfl⟩
      rw [hZ] at o4
      simp only [hZ]
      obtain ⟨k1, k2, k3, k4, k5, k6⟩ := hK.out
      have hF : Hid (NRow Tk w4 a4 Z ∧ SRow w4 pa Qs ∧ (∀ h ∈ Qs, Rd Tk w4 h.1 h.2.1 h.2.2 ∧ Inc h.2.2) ∧ Below w.heap.size w w4 ∧ AtlIs kk (lsts Ss) (Z.filter fun x => decide (kk ≤ (occ (lsts Qs) x : Int)))) := by
        refine ⟨(ownI_row o4).1, k3.below b4, fun h hh => ⟨(k4 h hh).1.below b4, (k4 h hh).2⟩, k5.trans (b4.mono k5.size), ?_⟩
        rw [← hZ, k2, k1]
        exact ra_out
      have zb : (Z.length : Int) ≤ 4194304 := by rw [← hZ]; omega
      clear k1 k2 k3 k4 k5 k6 hK o4 b4 hSo hZ j1
      obtain ⟨zn, hzn⟩ : ∃ zn, Z.length = zn := ⟨_, rfl⟩
      simp only [hzn] at zb ⊢
      have hzn' : Hid (Z.length = zn) := hzn
      clear hzn
      go_loopw [9, 10] (fun vo ivv wq => ∃ (i : Nat) (ra : Option Addr) (rn rc : Nat), ivv = .int .i64 (i : Int) ∧ vo = .slice ra rn rc ∧ i ≤ zn ∧ Hid (OwnI Tk wq w4.heap.size (.slice ra rn rc) ((Z.take i).filter fun x => decide (kk ≤ (occ (lsts Qs) x : Int))) ∧ Below w4.heap.size w4 wq)) (fun _ ivv _ => zn - (intOf ivv).toNat)
      case atStart => exact ⟨0, none, 0, 0, rfl, rfl, Nat.zero_le _, ownI_nil _ _, Below.refl _ _⟩
      case round =>
        obtain ⟨i, ra, rn, rc, rfl, rfl, hi, hR⟩ := hrel
        have i0 : (0 : Int) ≤ (i : Int) := Int.natCast_nonneg _
        obtain ⟨wq, rfl⟩ : ∃ wq, wq = wr := ⟨_, rfl⟩
        by_cases hilt : i < zn
        · have i1 : (i : Int) < (zn : Int) := Int.ofNat_lt.2 hilt
          have hiZ : i < Z.length := by rw [hzn'.out]; exact hilt
          obtain ⟨yb, yo, rfl, cy⟩ := (hF.out.1.below hR.out.2) i hiZ
          have htk : Hid (((Z.take (i + 1)).filter fun x => decide (kk ≤ (occ (lsts Qs) x : Int))) = ((Z.take i).filter fun x => decide (kk ≤ (occ (lsts Qs) x : Int))) ++ (if kk ≤ (occ (lsts Qs) Z[i] : Int) then [Z[i]] else [])) := by
            unfold Hid
            rw [List.take_succ_eq_append_getElem hiZ, List.filter_append]
            congr 1
            by_cases e : kk ≤ (occ (lsts Qs) Z[i] : Int)
            · simp [e]
            · simp [e]
          have hfl : Hid (((Z.take i).filter fun x => decide (kk ≤ (occ (lsts Qs) x : Int))).length ≤ 4194304) := by
            have h1 : ((Z.take i).filter fun x => decide (kk ≤ (occ (lsts Qs) x : Int))).length ≤ (Z.take i).length := List.length_filter_le _ _
            rw [List.length_take] at h1
            unfold Hid
            omega
          have hilt' : Hid (i < zn) := hilt
          generalize Z[i] = y at *
          clear hi hilt hiZ
          go_wp2_with fail
          go_loopw [11, 12] (fun nv jv ws => ∃ j2 q : Nat, jv = .int .i64 (j2 : Int) ∧ nv = .int .i64 (occ ((lsts Qs).take j2) y : Int) ∧ j2 ≤ m ∧ Hid (ws = wq.drewN q)) (fun _ jv _ => m - (intOf jv).toNat)
          case atStart => exact ⟨0, 0, rfl, by simp [PtCnM.occ], Nat.zero_le _, rfl⟩
          case round =>
            obtain ⟨j2, q, rfl, rfl, hj2, hw⟩ := hrel
            have p0 : (0 : Int) ≤ (j2 : Int) := Int.natCast_nonneg _
            have ob : (occ ((lsts Qs).take j2) y : Int) ≤ 4194304 := by
              have h1 : occ ((lsts Qs).take j2) y ≤ ((lsts Qs).take j2).length := List.countP_le_length
              rw [List.length_take] at h1
              omega
            have oz : (0 : Int) ≤ (occ ((lsts Qs).take j2) y : Int) := Int.natCast_nonneg _
            have cyr : wr.cell? ⟨yb, yo + i, none⟩ = some (.string (TB Tk y)) := by rw [hw.out]; exact cy
            have hbr : Below w4.heap.size w4 wr := by rw [hw.out]; exact hR.out.2.trans (below_drewN _ _ _)
            by_cases hjm : j2 < m
            · have p1 : (j2 : Int) < (m : Int) := Int.ofNat_lt.2 hjm
              have hjQ : j2 < Qs.length := by rw [hm'.out]; exact hjm
              obtain ⟨pb, po, rfl, cs⟩ := (hF.out.2.1.below hbr) j2 hjQ
              have hq := hF.out.2.2.1 _ (List.getElem_mem hjQ)
              have hIn : ∀ b, decide (y ∈ Qs[j2].2.2) = b → Hid (Calls Try.prog 20 #[.slice Qs[j2].1 Qs[j2].2.2.length Qs[j2].2.1, .string (TB Tk y)] wr.drew fun e w' => e = .returned (.bool b) ∧ wr.drew = w') := fun b hb => by
                have := in_any Qs[j2].1 Qs[j2].2.2 Qs[j2].2.1 y wr.drew ((hq.1.below (hbr.trans (below_drewN _ _ 1))).1) hq.2 (by have := hq.1.2.2.2; omega)
                rw [hb] at this
                exact this
              have hot : ∀ b, decide (y ∈ Qs[j2].2.2) = b → Hid (occ ((lsts Qs).take (j2 + 1)) y = occ ((lsts Qs).take j2) y + (if b = true then 1 else 0)) := fun b hb => by
                have h1 := occ_take (lsts Qs) j2 (by unfold lsts; simpa using hjQ) y
                have h2 : (lsts Qs)[j2]'(by unfold lsts; simpa using hjQ) = Qs[j2].2.2 := by unfold lsts; simp
                rw [h2] at h1
                rw [← hb]
                unfold Hid
                rw [h1]
                simp
              have hjm' : Hid (j2 < m) := hjm
              have hwq : Hid (wr.drew = wq.drewN (q + 1)) := by rw [hw.out]; rfl
              generalize hxx : Qs[j2] = x at *
              obtain ⟨xa, xc, xl⟩ := x
              simp only [hv] at cs
              dsimp only at hIn hot
              have cd : wr.drew.cell? ⟨pb, po + j2, none⟩ = some (.slice xa xl.length xc) ∧ wr.drew.cell? ⟨yb, yo + i, none⟩ = some (.string (TB Tk y)) := ⟨cs, cyr⟩
              generalize occ ((lsts Qs).take j2) y = o2 at *
              clear hq hjQ hjm hj2 hbr hxx
              by_cases hyx : y ∈ xl
              · have hI := hIn true (decide_eq_true hyx)
                have hO := hot true (decide_eq_true hyx)
                clear hIn hot hyx
                go_wp2_with fail
                go_region_held3 (fun w' => w'.cell? ⟨pb, po + j2, none⟩ = some (.slice xa xl.length xc) ∧ w'.cell? ⟨yb, yo + i, none⟩ = some (.string (TB Tk y)))
                  (first | exact cd)
                  (first | (go_at_call 20; refine hI.out.mono ?_; rintro e w' ⟨rfl, rfl⟩))
                go_wp2_with fail
                go_roundw
                case rel => exact ⟨j2 + 1, q + 1, by simp, by rw [hO.out]; simp, hjm'.out, hwq⟩
                case measure => have := hjm'.out; simp [intOf]; omega
              · have hI := hIn false (decide_eq_false hyx)
                have hO := hot false (decide_eq_false hyx)
                clear hIn hot hyx
                go_wp2_with fail
                go_region_held3 (fun w' => w'.cell? ⟨pb, po + j2, none⟩ = some (.slice xa xl.length xc) ∧ w'.cell? ⟨yb, yo + i, none⟩ = some (.string (TB Tk y)))
                  (first | exact cd)
                  (first | (go_at_call 20; refine hI.out.mono ?_; rintro e w' ⟨rfl, rfl⟩))
                go_wp2_with fail
                go_roundw
                case rel => exact ⟨j2 + 1, q + 1, by simp, by rw [hO.out]; simp, hjm'.out, hwq⟩
                case measure => have := hjm'.out; simp [intOf]; omega
            · have ej : j2 = m := by omega
              subst ej
              have p1 : ¬ (j2 : Int) < (j2 : Int) := by omega
              have hoc : occ ((lsts Qs).take j2) y = occ (lsts Qs) y := by rw [List.take_of_length_le (by unfold lsts; rw [List.length_map, hm'.out]; exact Nat.le_refl _)]
              rw [hoc] at ob oz ⊢
              by_cases hkk : kk ≤ (occ (lsts Qs) y : Int)
              · obtain ⟨v5, w5, e5, o5, b5⟩ := appendI_row (wr.alloc (.cells #[.string (TB Tk y)] 9)) w4.heap.size (.slice ra rn rc) _ [y] (some ⟨wr.heap.size, 0, none⟩) 1 1 (World.ownsRow.alloc (by rw [hw.out]; exact ownI_drewN hR.out.1 q) _) (rd_lit wr [y] 9 (by simp)).1 rfl (by have := hbr.size; simp; omega) (by have := hfl.out; simp only [List.length_cons, List.length_nil]; omega)
                obtain ⟨a5, n5, c5, rfl⟩ := ownI_slice o5
                have hfin : Hid (OwnI Tk w5 w4.heap.size (.slice a5 n5 c5) ((Z.take (i + 1)).filter fun x => decide (kk ≤ (occ (lsts Qs) x : Int))) ∧ Below w4.heap.size w4 w5) := by
                  refine ⟨by rw [htk.out, if_pos hkk]; exact o5, hbr.trans (((Below.refl _ _).alloc hbr.size _).trans b5)⟩
                generalize occ (lsts Qs) y = oq at *
                clear o5 b5 hbr hj2 hjm htk hoc hR hw cy
                go_wp2_with (at_builtin; refine Lib.wpList_append_run _ rfl _ _ _ _ rfl _ _ rfl rfl _ _ e5 ?_; clear e5)
                go_roundw
                case rel => exact ⟨i + 1, _, _, _, by simp, rfl, hilt'.out, hfin⟩
                case measure => have := hilt'.out; simp [intOf]; omega
              · have hfin : Hid (OwnI Tk wr w4.heap.size (.slice ra rn rc) ((Z.take (i + 1)).filter fun x => decide (kk ≤ (occ (lsts Qs) x : Int))) ∧ Below w4.heap.size w4 wr) := by
                  refine ⟨by rw [htk.out, if_neg hkk, List.append_nil, hw.out]; exact ownI_drewN hR.out.1 q, hbr⟩
                have hkk' : (occ (lsts Qs) y : Int) < kk := by omega
                generalize occ (lsts Qs) y = oq at *
                clear hbr hj2 hjm htk hoc hR hw cy hkk
                go_wp2_with fail
                go_roundw
                case rel => exact ⟨i + 1, _, _, _, by simp, rfl, hilt'.out, hfin⟩
                case measure => have := hilt'.out; simp [intOf]; omega
        · have ei : i = zn := by omega
          subst ei
          have i1 : ¬ (i : Int) < (i : Int) := by omega
          have hE : Hid (OwnI Tk wq w.heap.size (.slice ra rn rc) (Z.filter fun x => decide (kk ≤ (occ (lsts Qs) x : Int))) ∧ Below w.heap.size w wq) := by
            obtain ⟨h1, h2⟩ := hR.out
            rw [← hzn'.out, List.take_length] at h1
            exact ⟨ownI_base h1 hF.out.2.2.2.1.size, hF.out.2.2.2.1.trans (h2.mono hF.out.2.2.2.1.size)⟩
          clear hR hi hilt
          go_wp2_with fail
          go_ret
          exact ⟨_, rfl, _, hE.out.1, hF.out.2.2.2.2, hE.out.2⟩
end Pt
end Go.Proofs.Ythpfnajgbocpnaa
