import Derived.Test.YthpfnajgbocpnaaPtCnt
namespace Go.Proofs.Ythpfnajgbocpnaa
namespace Pt
open Go.RowKit Go.Sort Go.Lib Go.Shelf
open PtMath (Inc setOf cnt)
open PtHpM (Hd ky kf swpH Hp Gd sw)
open PtCnM (occ Good stepL Inn Out atl)
open PgSeq (Mv Still SeqT)
set_option linter.unusedVariables false
set_option maxRecDepth 100000
open PtT (Rk TB en)
variable {Tk : PtT.Rk}
attribute [local go_sem] Oper.semAt_some

abbrev encC (Tk : PtT.Rk) (x : Nat × Nat) : Array Value := #[.string (TB Tk x.1), .int .i64 (x.2 : Int)]
/-- Between two rounds. -/
def CO (Tk : PtT.Rk) (D : List (List Nat)) (N B n₀ hb : Nat) (pre : List (Nat × Nat)) (H : List Hd) (W : World) : Prop := CS Tk W B n₀ hb H ∧ Out D pre (lsts H) ∧ pre.length + tot (lsts H) ≤ N
/-- Inside one: v has been met t times. -/
def CI (Tk : PtT.Rk) (Ls : List (List Nat)) (B n₀ hb : Nat) (v : Nat) (t : Nat) (H : List Hd) (W : World) : Prop := CS Tk W B n₀ hb H ∧ Inn Ls (lsts H) v t ∧ t + tot (lsts H) = tot Ls
theorem tops_le {H : List Hd} {v : Nat} {W : World} {B n₀ hb : Nat} (hc : CS Tk W B n₀ hb H) (hv : ∀ h0 : 0 < H.length, v ≤ ky H[0]) : ∀ l ∈ lsts H, ∀ x ∈ l, v ≤ x := by
  intro l hl x hx
  obtain ⟨h, hh, rfl⟩ := List.mem_map.1 hl
  obtain ⟨i, hi, rfl⟩ := List.getElem_of_mem hh
  have h0 : 0 < H.length := by omega
  have h1 := hc.2.2.1.top i i (Nat.le_refl _) hi
  rw [PtHpM.kf_at h0, PtHpM.kf_at hi] at h1
  have h2 := hv h0
  have h3 : ky H[i] ≤ x := by
    have hI := (hc.2.1 _ (List.getElem_mem hi)).2.2.1
    unfold ky
    generalize H[i].2.2 = l at hx hI ⊢
    cases l with
    | nil => simp at hx
    | cons y l =>
      rcases List.mem_cons.1 hx with e | e
      · subst e; exact Nat.le_refl _
      · have := (List.pairwise_cons.1 hI).1 x e
        simp
        omega
  omega
theorem co_in {D : List (List Nat)} {N B n₀ hb : Nat} {pre : List (Nat × Nat)} {b off c : Nat} {v : Nat} {k : List Nat} {T : List Hd} {W : World} (h : CO Tk D N B n₀ hb pre ((some ⟨b, off, none⟩, c, v :: k) :: T) W) : CI Tk (lsts ((some ⟨b, off, none⟩, c, v :: k) :: T)) B n₀ hb v 0 ((some ⟨b, off, none⟩, c, v :: k) :: T) W :=
  ⟨h.1, Inn.start h.2.1.1 (tops_le h.1 (fun _ => Nat.le_refl _)), Nat.zero_add _⟩
theorem ci_step {Ls : List (List Nat)} {B n₀ hb t : Nat} {v : Nat} {a : Option Addr} {c : Nat} {k : List Nat} {T H' : List Hd} {W W' : World} (h : CI Tk Ls B n₀ hb v t ((a, c, v :: k) :: T) W) (hc : CS Tk W' B n₀ hb H') (hp : H'.Perm (stepH ((a, c, v :: k) :: T))) : CI Tk Ls B n₀ hb v (t + 1) H' W' := by
  have hl : (lsts H').Perm (stepL (lsts ((a, c, v :: k) :: T))) := by rw [← lsts_step]; exact hp.map _
  refine ⟨hc, h.2.1.step hl, ?_⟩
  have h1 := tot_perm hl
  have h2 : tot (stepL ((v :: k) :: lsts T)) + 1 = tot ((v :: k) :: lsts T) := tot_step (lsts T) (by simp)
  have h3 := h.2.2
  have e : lsts ((a, c, v :: k) :: T) = (v :: k) :: lsts T := rfl
  rw [e] at h1 h3
  omega
theorem ci_t {Ls : List (List Nat)} {B n₀ hb t : Nat} {v : Nat} {H : List Hd} {W : World} (h : CI Tk Ls B n₀ hb v t H W) : t ≤ Ls.length := by
  have h1 := h.2.1.2.1 v
  simp at h1
  have : occ Ls v ≤ Ls.length := List.countP_le_length
  omega
theorem ci_out {D : List (List Nat)} {N B n₀ hb t : Nat} {pre : List (Nat × Nat)} {b off c : Nat} {v : Nat} {k : List Nat} {T H' : List Hd} {W W' : World} (h : CO Tk D N B n₀ hb pre ((some ⟨b, off, none⟩, c, v :: k) :: T) W) (hi : CI Tk (lsts ((some ⟨b, off, none⟩, c, v :: k) :: T)) B n₀ hb v t H' W') (hne : ∀ h0 : 0 < H'.length, ky H'[0] ≠ v) : CO Tk D N B n₀ hb (pre ++ [(v, t)]) H' W' ∧ pre.length < N ∧ tot (lsts H') < tot (lsts ((some ⟨b, off, none⟩, c, v :: k) :: T)) := by
  have hv : 0 < occ (lsts ((some ⟨b, off, none⟩, c, v :: k) :: T)) v := PtCnM.occ_pos.2 ⟨v :: k, List.mem_cons_self .., List.mem_cons_self ..⟩
  have hgt : ∀ l ∈ lsts H', ∀ x ∈ l, v + 1 ≤ x := tops_le hi.1 (fun h0 => by
    have h1 := hne h0
    have hh := hi.1.2.1 _ (List.getElem_mem h0)
    have h2 := hi.2.1.2.2 (H'[0].2.2) (List.mem_map_of_mem (List.getElem_mem h0)) (ky H'[0]) (by
      have := hh.2.1.1
      unfold ky
      generalize H'[0].2.2 = l at *
      cases l with
      | nil => simp at this
      | cons y l => simp)
    omega)
  have ho := h.2.1.next hi.2.1 hv (fun l hl x hx => by have := hgt l hl x hx; omega)
  have ht : 1 ≤ t := by
    have h1 := ho.2.2.2.2.1 (v, t) (by simp)
    exact h1.2
  have h3 := hi.2.2
  have h4 := h.2.2
  refine ⟨⟨hi.1, ho, ?_⟩, by omega, by omega⟩
  simp
  omega
theorem ownH_slice {W : World} {B : Nat} {v : Value} {H : List Hd} (h : OwnH W B v H) : ∃ a n c, v = .slice a n c := by
  rcases ownH_form h with ⟨h1, _⟩ | ⟨g, cap, h1, _⟩
  · exact ⟨_, _, _, h1⟩
  · exact ⟨_, _, _, h1⟩
theorem some1_mem {Ss : List Hd} {h : Hd} (hh : h ∈ some1 Ss) : h ∈ Ss ∧ 0 < h.2.2.length := by
  unfold some1 at hh
  rw [List.mem_filter] at hh
  exact ⟨hh.1, by simpa using hh.2⟩
theorem tot_some1 (Ss : List Hd) : tot (lsts (some1 Ss)) ≤ tot (lsts Ss) := by
  unfold tot lsts some1
  induction Ss with
  | nil => simp
  | cons h T ih =>
    by_cases e : 0 < h.2.2.length
    · simp [e] at ih ⊢; omega
    · simp [e] at ih ⊢; omega

set_option maxRecDepth 1000000 in
set_option maxHeartbeats 4000000 in
theorem counted_stops (n : Nat) (hn : 1 ≤ n) (w : World) (Bn n₀ : Nat) (sa : Option Addr) (Ss : List Hd) (sc N : Nat) (hc : w.cell? ⟨Bn, 0, none⟩ = some (.slice sa Ss.length sc)) (hr : SRow w sa Ss) (hok : ∀ h ∈ Ss, 0 < h.2.2.length → HdOk Tk w n₀ h) (hn0 : n₀ ≤ w.heap.size) (hl : Ss.length * 24 ≤ 140737488355328) (hN : tot (lsts Ss) ≤ N) :
    SeqT Fence.wide n Try.prog TT 29 #[.pointer (some ⟨Bn, 0, none⟩)] (encC Tk) (KpC n₀) (fun xs => Out (lsts (some1 Ss)) xs []) (fun pre => ∃ Ls, Out (lsts (some1 Ss)) pre Ls) N w := fun l J Jx W hW hJ hJx hY h0 => by
  have hc' : W.cell? ⟨Bn, 0, none⟩ = some (.slice sa Ss.length sc) := by rw [hW.cell (World.block_lt_of_cell? w _ hc)]; exact hc
  have hHd := headsOf_any sa Ss sc W (hr.below hW) (fun h hh e => ((hok h hh e).keep (hW.mono hn0)).mono (Nat.le_trans hn0 hW.size)) hl
  have hst : ∀ (W1 : World) (v : Value) (H : List Hd), OwnH W1 W.heap.size v H → H.Perm (some1 Ss) → Hp (kf H) H.length 0 → Below W.heap.size W W1 → CO Tk (lsts (some1 Ss)) N W.heap.size n₀ W1.heap.size [] H (W1.alloc (.cells #[v] 51)) := fun W1 v H q1 q2 q3 q4 => by
    have hn1 : n₀ ≤ W.heap.size := Nat.le_trans hn0 hW.size
    have hlen : H.length ≤ Ss.length := by rw [q2.length_eq]; exact List.length_filter_le _ _
    have hok1 : ∀ x ∈ H, HdOk Tk (W1.alloc (.cells #[v] 51)) n₀ x := fun x hx => by
      obtain ⟨m1, m2⟩ := some1_mem (q2.mem_iff.1 hx)
      refine (hok x m1 m2).keep ((hW.mono hn0).trans ((q4.mono hn1).trans ?_))
      exact ((Below.refl _ _).alloc (Nat.le_trans hn1 q4.size) _)
    have hgood : PtCnM.Good (lsts (some1 Ss)) := fun l hl => by
      obtain ⟨h, hh, rfl⟩ := List.mem_map.1 hl
      obtain ⟨m1, m2⟩ := some1_mem hh
      refine ⟨fun e => ?_, (hok h m1 m2).2.2.1⟩
      rw [e] at m2
      simp at m2
    have hout : Out (lsts (some1 Ss)) [] (lsts H) := by
      obtain ⟨o1, o2, o3, o4, o5, o6⟩ := Out.start hgood
      have hp : (lsts (some1 Ss)).Perm (lsts H) := (q2.map _).symm
      refine ⟨o1.perm hp, o2, fun p hp => by simp at hp, fun x hx => by rw [← o4 x hx]; exact (PtCnM.occ_perm hp x).symm, o5, fun x hx => Or.inr (by rw [← PtCnM.occ_perm hp x]; exact hx)⟩
    refine ⟨⟨?_, hok1, q3, by omega, q4.size, hn1⟩, hout, ?_⟩
    · have hnew : (W1.alloc (.cells #[v] 51)).heap[W1.heap.size]? = some (.cells #[v] 51 (0, 0)) := heap_alloc_new _ _
      rcases ownH_form q1 with ⟨rfl, rfl⟩ | ⟨g, cap, rfl, hg⟩
      · exact Or.inr ⟨rfl, hnew⟩
      · exact Or.inl ⟨g, cap, hnew, World.ownsRow.alloc q1 _⟩
    · have h1 := tot_perm (q2.map (fun h : Hd => h.2.2))
      have h2 := tot_some1 Ss
      have h3 : tot (lsts H) = tot (lsts (some1 Ss)) := h1
      simp
      omega
  have hlb : Hid ((some1 Ss).length ≤ 17592186044416) := by
    have : (some1 Ss).length ≤ Ss.length := List.length_filter_le _ _
    unfold Hid
    omega
  generalize hD : lsts (some1 Ss) = D at *
  have hWs : Hid (n₀ ≤ W.heap.size) := Nat.le_trans hn0 hW.size
  clear hr hok hn0 hl hN hc hW hD
  generalize Ss.length = sn at *
  refine callsIn_of_wp Try.func29 rfl trivial ?_ rfl
  simp only [Try.ntmps29, List.size_toArray, List.length_cons, List.length_nil, Nat.reduceAdd, Nat.reduceSub, Array.replicate_succ, Array.replicate_zero, List.push_toArray, List.append_toArray, List.nil_append, List.cons_append]
  gi_wp2_with (refine ⟨trivial, ?_⟩; gi_at_call 30; refine (callsIn_wide.2 hHd).mono ?_; rintro e w1 ⟨v1, H1, rfl, hO1, hP1, hH1, hb1⟩; obtain ⟨a1, n1, c1, rfl⟩ := ownH_slice hO1)
  have hCO0 := hst _ _ _ hO1 hP1 hH1 hb1
  have hJ0 : J [] (w1.alloc (.cells #[.slice a1 n1 c1] 51)) := hJ _ _ _ h0 (Mv.of_below (hb1.alloc hb1.size _))
  have hsz : Hid (W.heap.size ≤ w1.heap.size) := hb1.size
  generalize (w1.alloc (.cells #[.slice a1 n1 c1] 51)) = W2 at *
  generalize w1.heap.size = hb at *
  clear hO1 hP1 hH1 hb1 hst h0 hHd hc'
  gi_loopw [4, 5] (fun lv tv wr => ∃ (pre : List (Nat × Nat)) (H : List Hd), Hid (CO Tk D N W.heap.size n₀ hb pre H wr ∧ J pre wr)) (fun _ _ wr => leftW hb wr)
  case atStart => exact ⟨[], H1, hCO0, hJ0⟩
  case round =>
    obtain ⟨pre, H, hQ⟩ := hrel
    cases H with
    | nil =>
      have hb0 : ∃ a c, wr.cell? ⟨hb, 0, none⟩ = some (.slice a 0 c) := by
        rcases hQ.out.1.1.1 with ⟨g, cap, q1, _⟩ | ⟨_, q1⟩
        · exact ⟨_, _, (box_at q1).1⟩
        · exact ⟨_, _, (box_at q1).1⟩
      obtain ⟨a0, c0, hb0⟩ := hb0
      gi_wp2
      go_end0
      exact ⟨⟨_, rfl⟩, .inl ⟨pre, hQ.out.1.2.1, hQ.out.2⟩⟩
    | cons h T =>
      obtain ⟨wo, rfl⟩ : ∃ wo, wo = wr := ⟨_, rfl⟩
      obtain ⟨g, cap, b, off, m, c, v, k, rfl, hm, e1, e2, e3, e4⟩ := hQ.out.1.1.top
      have hn1 : (0 : Int) < ((((some ⟨b, off, none⟩, c, v :: k) :: T : List Hd).length : Nat) : Int) := by simp only [List.length_cons]; omega
      have hCI : Hid (CI Tk (lsts ((some ⟨b, off, none⟩, c, v :: k) :: T)) W.heap.size n₀ hb v 0 ((some ⟨b, off, none⟩, c, v :: k) :: T) wo ∧ J pre wo) := ⟨co_in hQ.out.1, hQ.out.2⟩
      have hlen : Hid ((lsts ((some ⟨b, off, none⟩, c, v :: k) :: T)).length ≤ 17592186044416) := by
        have := hQ.out.1.1.2.2.2.1
        unfold Hid lsts
        rw [List.length_map]
        exact this
      generalize ((some ⟨b, off, none⟩, c, v :: k) :: T : List Hd).length = N1 at e1 hn1
      have hn1n : 0 < N1 := by omega
      clear hm hCO0 hJ0
      gi_wp2
      gi_loopw [5] (fun tv ws => ∃ (t : Nat) (H' : List Hd), tv = .int .i64 (t : Int) ∧ Hid (CI Tk (lsts ((some ⟨b, off, none⟩, c, v :: k) :: T)) W.heap.size n₀ hb v t H' ws ∧ J pre ws)) (fun _ ws => leftW hb ws)
      case atStart => exact ⟨0, _, rfl, hCI⟩
      case round =>
        clear e1 e2 e3 e4 hCI
        obtain ⟨t, H', rfl, hR⟩ := hrel
        have htb : (t : Int) ≤ 17592186044416 := by have := ci_t hR.out.1; have := hlen.out; omega
        cases H' with
        | nil =>
          have hb0 : ∃ a c, wr.cell? ⟨hb, 0, none⟩ = some (.slice a 0 c) := by
            rcases hR.out.1.1.1 with ⟨g, cap, q1, _⟩ | ⟨_, q1⟩
            · exact ⟨_, _, (box_at q1).1⟩
            · exact ⟨_, _, (box_at q1).1⟩
          obtain ⟨a0, c0, hb0⟩ := hb0
          have hne : ∀ h0 : 0 < ([] : List Hd).length, ky ([] : List Hd)[0] ≠ v := fun h0 => by simp at h0
          have hO : Hid (CO Tk D N W.heap.size n₀ hb (pre ++ [(v, t)]) [] wr ∧ pre.length < N ∧ leftW hb wr < leftW hb wo) := by
            obtain ⟨o1, o2, o3⟩ := ci_out hQ.out.1 hR.out.1 hne
            refine ⟨o1, o2, ?_⟩
            rw [leftW_of o1.1, leftW_of hQ.out.1.1]
            exact o3
          obtain ⟨fn, tmps, assign, body, hy, hYR⟩ := hY pre (v, t) wr hR.out.2 hO.out.2.1
          dsimp only [encC] at hy
          have hJ' : Hid (∀ W3, J (pre ++ [(v, t)]) W3 → KpC n₀ wr W3 → CO Tk D N W.heap.size n₀ hb (pre ++ [(v, t)]) [] W3 ∧ J (pre ++ [(v, t)]) W3 ∧ leftW hb W3 < leftW hb wo) := fun W3 j1 j2 => by
            have q1 := hO.out.1.1.keep j2
            refine ⟨⟨q1, hO.out.1.2⟩, j1, ?_⟩
            rw [leftW_of q1, ← leftW_of hO.out.1.1]
            exact hO.out.2.2
          clear hne hR
          gi_wp2
          refine hYR.mono ?_
          rintro e W3 ⟨_, (⟨rfl, hJ3, hk3⟩ | ⟨rfl, hJx3⟩)⟩
          · have hfin := hJ'.out W3 hJ3 hk3
            have hfin' : Hid (CO Tk D N W.heap.size n₀ hb (pre ++ [(v, t)]) [] W3 ∧ J (pre ++ [(v, t)]) W3 ∧ leftW hb W3 < leftW hb wo) := hfin
            clear hJ3 hk3 hfin hJ' hYR hy
            gi_wp2
            go_roundw
            case rel => exact ⟨_, _, hfin'.out.1, hfin'.out.2.1⟩
            case measure => exact hfin'.out.2.2
          · clear hYR hy
            gi_wp2
            refine bodyPost_ret (results_none rfl _ _ _) rfl ?_
            exact ⟨⟨_, rfl⟩, .inr ⟨_, ⟨_, hO.out.1.2.1⟩, hJx3⟩⟩
        | cons h' T' =>
          obtain ⟨g, cap, b', off', m, c', v', k', rfl, hm, e1, e2, e3, e4⟩ := hR.out.1.1.top
          have hn2 : (0 : Int) < ((((some ⟨b', off', none⟩, c', v' :: k') :: T' : List Hd).length : Nat) : Int) := by simp only [List.length_cons]; omega
          by_cases hvv : v' = v
          · subst hvv
            have hStp := cs_step hR.out.1.1
            have t0 : (0 : Int) ≤ (t : Int) := Int.natCast_nonneg _
            have hR' : Hid (∀ W3 H3, CS Tk W3 W.heap.size n₀ hb H3 → H3.Perm (stepH ((some ⟨b', off', none⟩, c', v' :: k') :: T')) → Mv TT W.heap.size wr W3 → (CI Tk (lsts ((some ⟨b, off, none⟩, c, v' :: k) :: T)) W.heap.size n₀ hb v' (t + 1) H3 W3 ∧ J pre W3) ∧ leftW hb W3 < leftW hb wr) := fun W3 H3 j1 j2 j3 => by
              have q := ci_step hR.out.1 j1 j2
              refine ⟨⟨q, hJ _ _ _ hR.out.2 j3⟩, ?_⟩
              rw [leftW_of j1, leftW_of hR.out.1.1]
              have h1 := q.2.2
              have h2 := hR.out.1.2.2
              omega
            generalize ((some ⟨b', off', none⟩, c', v' :: k') :: T' : List Hd).length = N2 at e1 hn2
            clear hm hR
            gi_wp2_with (refine ⟨trivial, ?_⟩; gi_at_call 31; refine (callsIn_wide.2 hStp).mono ?_; rintro e w3 ⟨rfl, H3, hs1, hs2, hs3⟩)
            have hfin := hR'.out w3 H3 hs1 hs2 hs3
            have hfin' : Hid ((CI Tk (lsts ((some ⟨b, off, none⟩, c, v' :: k) :: T)) W.heap.size n₀ hb v' (t + 1) H3 w3 ∧ J pre w3) ∧ leftW hb w3 < leftW hb wr) := hfin
            clear hs1 hs2 hs3 hfin hR' hStp
            go_roundw
            case rel => exact ⟨t + 1, H3, by simp, hfin'.out.1⟩
            case measure => exact hfin'.out.2
          · have hne : ∀ h0 : 0 < ((some ⟨b', off', none⟩, c', v' :: k') :: T' : List Hd).length, ky ((some ⟨b', off', none⟩, c', v' :: k') :: T' : List Hd)[0] ≠ v := fun h0 => by simpa [ky] using hvv
            have hvb : ((TB Tk v').toList == (TB Tk v).toList) = false := PtT.beq_ne Tk hvv
            obtain ⟨N2, hN2⟩ : ∃ N2, ((some ⟨b', off', none⟩, c', v' :: k') :: T' : List Hd).length = N2 := ⟨_, rfl⟩
            rw [hN2] at e1 hn2
            clear hm hN2
            have hO : Hid (CO Tk D N W.heap.size n₀ hb (pre ++ [(v, t)]) ((some ⟨b', off', none⟩, c', v' :: k') :: T') wr ∧ pre.length < N ∧ leftW hb wr < leftW hb wo) := by
              obtain ⟨o1, o2, o3⟩ := ci_out hQ.out.1 hR.out.1 hne
              refine ⟨o1, o2, ?_⟩
              rw [leftW_of o1.1, leftW_of hQ.out.1.1]
              exact o3
            obtain ⟨fn, tmps, assign, body, hy, hYR⟩ := hY pre (v, t) wr hR.out.2 hO.out.2.1
            dsimp only [encC] at hy
            have hJ' : Hid (∀ W3, J (pre ++ [(v, t)]) W3 → KpC n₀ wr W3 → CO Tk D N W.heap.size n₀ hb (pre ++ [(v, t)]) ((some ⟨b', off', none⟩, c', v' :: k') :: T') W3 ∧ J (pre ++ [(v, t)]) W3 ∧ leftW hb W3 < leftW hb wo) := fun W3 j1 j2 => by
              have q1 := hO.out.1.1.keep j2
              refine ⟨⟨q1, hO.out.1.2⟩, j1, ?_⟩
              rw [leftW_of q1, ← leftW_of hO.out.1.1]
              exact hO.out.2.2
            clear hne hR
            gi_wp2
            refine hYR.mono ?_
            rintro e W3 ⟨_, (⟨rfl, hJ3, hk3⟩ | ⟨rfl, hJx3⟩)⟩
            · have hfin := hJ'.out W3 hJ3 hk3
              have hfin' : Hid (CO Tk D N W.heap.size n₀ hb (pre ++ [(v, t)]) ((some ⟨b', off', none⟩, c', v' :: k') :: T') W3 ∧ J (pre ++ [(v, t)]) W3 ∧ leftW hb W3 < leftW hb wo) := hfin
              clear hJ3 hk3 hfin hJ' hYR hy
              gi_wp2
              go_roundw
              case rel => exact ⟨_, _, hfin'.out.1, hfin'.out.2.1⟩
              case measure => exact hfin'.out.2.2
            · clear hYR hy
              gi_wp2
              refine bodyPost_ret (results_none rfl _ _ _) rfl ?_
              exact ⟨⟨_, rfl⟩, .inr ⟨_, ⟨_, hO.out.1.2.1⟩, hJx3⟩⟩
end Pt
end Go.Proofs.Ythpfnajgbocpnaa
