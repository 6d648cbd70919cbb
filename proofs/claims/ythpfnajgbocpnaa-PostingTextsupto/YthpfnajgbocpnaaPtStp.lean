import Derived.Test.YthpfnajgbocpnaaPtSnk
namespace Go.Proofs.Ythpfnajgbocpnaa
namespace Pt
open Go.RowKit Go.Sort Go.Lib
open PtMath (Inc setOf cnt)
open PtHpM (Hd ky kf swpH Hp Gd sw)
set_option linter.unusedVariables false
set_option maxRecDepth 100000
open PtT (Rk TB en)
variable {Tk : PtT.Rk}

/-- A head, one number on. -/
def dropHd (h : Hd) : Hd := (cutA h.1 1 h.2.1, h.2.1 - 1, h.2.2.drop 1)
set_option maxRecDepth 100000 in
set_option maxHeartbeats 1000000 in
theorem next_set (b : Nat) (h : Hd) (w : World) (h1 : w.cell? ⟨b, 0, none⟩ = some (hv h)) (h2 : w.frozen? ⟨b, 0, none⟩ = false) (hn : 1 ≤ h.2.2.length) :
    Calls Try.prog 46 #[.pointer (some ⟨b, 0, none⟩)] w fun e w' => e = .returned (.tuple #[]) ∧ w' = w.setCell ⟨b, 0, none⟩ (hv (dropHd h)) := by
  obtain ⟨a, cap, l⟩ := h
  dsimp only [hv, dropHd] at h1 hn ⊢
  rw [List.length_drop]
  have hp : (0 : Int) < (l.length : Int) := by omega
  have hsl : ∀ W, (Instr.sliceAt 23 (.slice a l.length cap) (some (.int .i64 1)) none none).run Try.prog W = .ok (.slice (cutA a 1 cap) (l.length - 1) (cap - 1)) W := fun W => slice_from a _ cap 1 1 rfl hn W
  generalize l.length = n at *
  generalize cutA a 1 cap = a' at *
  clear hn
  go_enter Try.func46, Try.ntmps46
  go_wp2_with fail
  go_end0
  exact ⟨rfl, rfl⟩
theorem HdOk.cur {w : World} {B g : Nat} {h : Hd} (hh : HdOk Tk w B h) (hg : B ≤ g) (h1 : w.cell? ⟨g, 0, none⟩ = some (hv h)) (h2 : w.frozen? ⟨g, 0, none⟩ = false) : Cur Tk w 0 g h.2.2 := by
  obtain ⟨a, cap, l⟩ := h
  obtain ⟨k1, k2, k3, k4⟩ := hh
  refine ⟨a, cap, h1, h2, k1, k2.2.1, k2.2.2.1, k2.2.2.2, ?_⟩
  exact fun x _ hx => ⟨Nat.zero_le _, by have := k4 x hx; omega⟩
theorem HdOk.drop {w : World} {B : Nat} {h : Hd} (hh : HdOk Tk w B h) (hl : 1 < h.2.2.length) : HdOk Tk w B (dropHd h) := by
  obtain ⟨a, cap, l⟩ := h
  obtain ⟨k1, ⟨k2, k2a, k2b, k2c⟩, k3, k4⟩ := hh
  dsimp only at *
  refine ⟨k1.cut k2a, ?_, PtMath.inc_drop k3 1, fun x hx => ?_⟩
  · dsimp only [dropHd]; rw [List.length_drop]; omega
  · dsimp only [dropHd] at hx
    obtain ⟨b, off, e, _⟩ := k1 0 (by omega)
    subst e
    have hb := k4 _ rfl
    unfold cutA at hx
    by_cases e : cap = 1
    · rw [if_pos e] at hx; injection hx with hx; subst hx; exact hb
    · rw [if_neg e] at hx
      simp only [Option.map_some, add_off] at hx
      injection hx with hx
      subst hx
      exact hb
/-- One element less at its end. -/
theorem ownH_take {W : World} {B g cap : Nat} {H : List Hd} (h : OwnH W B (.slice (some ⟨g, 0, none⟩) H.length cap) H) (k : Nat) (hk : k ≤ H.length) : OwnH W B (.slice (some ⟨g, 0, none⟩) (H.take k).length cap) (H.take k) := by
  rcases h.2 with ⟨e, _⟩ | ⟨g', cap', cur, e, h3, hb, h5, h6, h7, h8⟩
  · cases e
  · cases e
    have hl : (H.take k).length = k := by rw [List.length_take]; omega
    unfold OwnH
    refine ⟨by simp, Or.inr ⟨g, cap, cur, rfl, h3, hb, by omega, h6, h7, ?_⟩⟩
    rw [Nat.mul_one] at h8 ⊢
    rw [hl, List.map_take, ← h8, List.take_take]
    congr 1
    omega
theorem el74 : Try.prog.underlying 51 = some (.slice (Try.prog.elem 51)) := by kernel_rfl
theorem info_cur : (Try.prog.info? 45).map (fun i => i.size) = some 1 := by kernel_rfl
theorem run_sz74 (W : World) : (Go.sizeOf (Try.prog.elem 51)).run Try.prog W = .ok 1 W := by
  have e : Try.prog.elem 51 = 45 := by kernel_rfl
  rw [e]
  obtain ⟨i0, hi, hs⟩ := Option.map_eq_some_iff.1 info_cur
  simp [Go.sizeOf, typeInfo, hi, hs]
theorem half_h (g n c k : Nat) (z : Int) (hz : z = (k : Int)) (hk : k ≤ c) (W : World) :
    (Instr.sliceAt 51 (.slice (some ⟨g, 0, none⟩) n c) none (some (.int .i64 z)) none).run Try.prog W = .ok (.slice (some ⟨g, 0, none⟩) k c) W := by
  subst hz
  rw [run_sliceAt_slice _ _ _ _ _ _ el74, run_slice_h _ _ _ _ _ el74 _ _ (Int.natCast_nonneg _) (Int.ofNat_le.2 hk), run_sz74]
  simp [Result.andThen, sliced, Addr.add]
/-- Two blocks may have turned. -/
def But2 (x y : Nat) (w w' : World) : Prop := w'.os = w.os ∧ w'.tape = w.tape ∧ w'.output = w.output ∧ w'.heap.size = w.heap.size ∧ ∀ k, k ≠ x → k ≠ y → w'.heap[k]? = w.heap[k]?
theorem ButB.two1 {x y : Nat} {w w' : World} (h : ButB x w w') : But2 x y w w' := ⟨h.1, h.2.1, h.2.2.1, h.2.2.2.1, fun k h1 _ => h.2.2.2.2 k h1⟩
theorem ButB.two2 {x y : Nat} {w w' : World} (h : ButB y w w') : But2 x y w w' := ⟨h.1, h.2.1, h.2.2.1, h.2.2.2.1, fun k _ h1 => h.2.2.2.2 k h1⟩
theorem But2.trans {x y : Nat} {w w' w'' : World} (h : But2 x y w w') (k : But2 x y w' w'') : But2 x y w w'' := ⟨k.1.trans h.1, k.2.1.trans h.2.1, k.2.2.1.trans h.2.2.1, k.2.2.2.1.trans h.2.2.2.1, fun i h1 h2 => (k.2.2.2.2 i h1 h2).trans (h.2.2.2.2 i h1 h2)⟩
theorem ownH_same {W W' : World} {B : Nat} {v : Value} {H : List Hd} (h : OwnH W B v H) (hb : ∀ k, v.ownBlock = some k → W'.heap[k]? = W.heap[k]?) : OwnH W' B v H := by
  rcases h with ⟨h1, ⟨rfl, h2⟩ | ⟨g, cap, cur, rfl, h3, h4, h5⟩⟩
  · exact ⟨h1, Or.inl ⟨rfl, h2⟩⟩
  · exact ⟨h1, Or.inr ⟨g, cap, cur, rfl, h3, by rw [hb g rfl]; exact h4, h5⟩⟩
theorem HdOk.but2 {W W' : World} {B x y : Nat} {h : Hd} (hh : HdOk Tk W B h) (hb : But2 x y W W') (hx : B ≤ x) (hy : B ≤ y) : HdOk Tk W' B h := by
  refine ⟨hh.1.of_block (fun k hk _ => ?_), hh.2⟩
  obtain ⟨a, c, l⟩ := h
  cases a with
  | none => cases hk
  | some z => simp at hk; have := hh.2.2.2 z rfl; exact hb.2.2.2.2 k (by omega) (by omega)
/-- What a step leaves of the heads. -/
def stepH : List Hd → List Hd
  | [] => []
  | h :: T => if 1 < h.2.2.length then dropHd h :: T else T
theorem kf_tail {H G : List Hd} (h : ∀ j, 1 ≤ j → j < G.length → G.getD j (none, 0, []) = H.getD j (none, 0, [])) (hl : G.length ≤ H.length) (hp : Hp (kf H) H.length 0) : Hp (kf G) G.length 1 := by
  intro j h1 h2 h3
  have := hp j h1 (by omega) (Nat.zero_le _)
  unfold kf at *
  rw [h j h1 h2, h ((j - 1) / 2) h3 (by omega)]
  exact this
theorem last_perm (h : Hd) (T : List Hd) : (((h :: T).set 0 ((h :: T).getD T.length (none, 0, []))).take T.length).Perm T := by
  rcases List.eq_nil_or_concat T with e | ⟨T', x, e⟩
  · subst e; simp
  · subst e
    simp only [List.concat_eq_append, List.length_append, List.length_cons, List.length_nil, List.set_cons_zero]
    have e1 : (h :: (T' ++ [x])).getD (T'.length + (0 + 1)) (none, 0, []) = x := by simp [List.getD]
    rw [e1]
    have e2 : ((x :: (T' ++ [x])).take (T'.length + (0 + 1))) = x :: T' := by simp
    rw [e2]
    exact (List.perm_append_singleton x T').symm
theorem box_at {W : World} {b : Nat} {v : Value} {t : TypeId} (h : W.heap[b]? = some (.cells #[v] t (0, 0))) : W.cell? ⟨b, 0, none⟩ = some v ∧ W.frozen? ⟨b, 0, none⟩ = false := by
  simp [World.cell?, World.frozen?, h]
set_option maxRecDepth 100000 in
set_option maxHeartbeats 1000000 in
theorem step_any (hb g cap B : Nat) (h : Hd) (T : List Hd) (w : World) (hz : w.heap[hb]? = some (.cells #[.slice (some ⟨g, 0, none⟩) (h :: T).length cap] 51 (0, 0))) (hO : OwnH w B (.slice (some ⟨g, 0, none⟩) (h :: T).length cap) (h :: T))
    (hok : ∀ x ∈ h :: T, HdOk Tk w B x) (hlen : (h :: T).length ≤ 17592186044416) (hp : Hp (kf (h :: T)) (h :: T).length 0) (hne : hb ≠ g) (hbB : B ≤ hb) :
    Calls Try.prog 31 #[.pointer (some ⟨hb, 0, none⟩)] w fun e w' => e = .returned (.tuple #[]) ∧ ∃ H', w'.heap[hb]? = some (.cells #[.slice (some ⟨g, 0, none⟩) H'.length cap] 51 (0, 0)) ∧ OwnH w' B (.slice (some ⟨g, 0, none⟩) H'.length cap) H' ∧ H'.Perm (stepH (h :: T)) ∧ Hp (kf H') H'.length 0 ∧ But2 hb g w w' := by
  obtain ⟨hx, hy⟩ := box_at hz
  obtain ⟨gB, gs, gc⟩ := ownH_g hO
  obtain ⟨z0, y0⟩ := ownH_cell hO 0 (by simp)
  simp only [List.getElem_cons_zero] at z0
  have hh := hok h (List.mem_cons_self ..)
  have hsk : ∀ (H2 : List Hd) (W : World), Hid (OwnH W B (.slice (some ⟨g, 0, none⟩) H2.length cap) H2 → (∀ x ∈ H2, HdOk Tk W B x) → H2.length ≤ 17592186044416 → Hp (kf H2) H2.length 1 → Calls Try.prog 44 #[.slice (some ⟨g, 0, none⟩) H2.length cap, .int .i64 0] W fun e w' => e = .returned (.tuple #[]) ∧ ∃ H', OwnH w' B (.slice (some ⟨g, 0, none⟩) H2.length cap) H' ∧ H'.Perm H2 ∧ Hp (kf H') H2.length 0 ∧ ButB g W w') := fun H2 W a1 a2 a3 a4 => sink_any g cap 0 B H2 W a1 a2 (Nat.zero_le _) a3 a4
  have hfin : ∀ (H2 : List Hd) (W : World), Hid (W.heap[hb]? = some (.cells #[.slice (some ⟨g, 0, none⟩) H2.length cap] 51 (0, 0)) ∧ OwnH W B (.slice (some ⟨g, 0, none⟩) H2.length cap) H2 ∧ (∀ x ∈ H2, HdOk Tk W B x) ∧ H2.length ≤ 17592186044416 ∧ Hp (kf H2) H2.length 1 ∧ H2.Perm (stepH (h :: T)) ∧ But2 hb g w W →
      Calls Try.prog 44 #[.slice (some ⟨g, 0, none⟩) H2.length cap, .int .i64 0] W fun e w' => e = .returned (.tuple #[]) ∧ ∃ H', w'.heap[hb]? = some (.cells #[.slice (some ⟨g, 0, none⟩) H'.length cap] 51 (0, 0)) ∧ OwnH w' B (.slice (some ⟨g, 0, none⟩) H'.length cap) H' ∧ H'.Perm (stepH (h :: T)) ∧ Hp (kf H') H'.length 0 ∧ But2 hb g w w') := fun H2 W hW => by
    obtain ⟨q1, q3, q4, q5, q6, q7, q8⟩ := hW
    refine ((hsk H2 W).out q3 q4 q5 q6).mono ?_
    rintro e w' ⟨rfl, H', r1, r2, r3, r4⟩
    have hl : H'.length = H2.length := r2.length_eq
    refine ⟨rfl, H', ?_, by rw [hl]; exact r1, r2.trans q7, by rw [hl]; exact r3, q8.trans r4.two2⟩
    · rw [hl, r4.2.2.2.2 hb hne]; exact q1
  obtain ⟨N, hN⟩ : ∃ N, (h :: T).length = N := ⟨_, rfl⟩
  have n0 : (0 : Int) < (N : Int) := by rw [← hN]; simp only [List.length_cons]; omega
  have nb : (N : Int) ≤ 17592186044416 := by rw [← hN]; omega
  by_cases hl : 1 < h.2.2.length
  · have hSt : Hid (stepH (h :: T) = dropHd h :: T) := by unfold Hid; simp [stepH, hl]
    have hx2 : ∀ n, ((w.drewN n).setCell ⟨g, 0, none⟩ (hv (dropHd h))).cell? ⟨hb, 0, none⟩ = some (.slice (some ⟨g, 0, none⟩) N cap) := fun n => by
      rw [World.cell?_setCell_other _ _ _ _ (by intro hh; injection hh with hh _ _; exact hne hh.symm), ← hN]
      exact hx
    have hset := ownH_set hO 0 (by simp) (dropHd h)
    simp only [List.set_cons_zero] at hset
    have hLf : ∀ W, Hid (W.heap = w.heap → Calls Try.prog 45 #[.pointer (some ⟨g, 0, none⟩)] W fun e w' => e = .returned (.int .i64 (h.2.2.length : Int)) ∧ w' = W) := fun W hW => by
      refine left_any (Tk := Tk) 0 g h.2.2 W ?_
      have := hh.cur gB z0 y0
      exact this.same (fun k _ _ => by rw [hW]) (Nat.zero_le _)
    have hNx : ∀ W, Hid (W.heap = w.heap → Calls Try.prog 46 #[.pointer (some ⟨g, 0, none⟩)] W fun e w' => e = .returned (.tuple #[]) ∧ w' = W.setCell ⟨g, 0, none⟩ (hv (dropHd h))) := fun W hW => next_set g h W (by rw [World.cell?_of_block (w := w) (by rw [hW])]; exact z0) (by rw [World.frozen?_of_block (w := w) (by rw [hW])]; exact y0) (by omega)
    have hl' : (1 : Int) < (h.2.2.length : Int) := by omega
    have hFn : ∀ n, Hid (Calls Try.prog 44 #[.slice (some ⟨g, 0, none⟩) N cap, .int .i64 0] ((w.drewN n).setCell ⟨g, 0, none⟩ (hv (dropHd h))) fun e w' => e = .returned (.tuple #[]) ∧ ∃ H', w'.heap[hb]? = some (.cells #[.slice (some ⟨g, 0, none⟩) H'.length cap] 51 (0, 0)) ∧ OwnH w' B (.slice (some ⟨g, 0, none⟩) H'.length cap) H' ∧ H'.Perm (stepH (h :: T)) ∧ Hp (kf H') H'.length 0 ∧ But2 hb g w w') := fun n => by
      have hbb : ButB g w ((w.drewN n).setCell ⟨g, 0, none⟩ (hv (dropHd h))) := (ButB.drewN g w n).trans (ButB.set _ _ _ _)
      have := (hfin (dropHd h :: T) ((w.drewN n).setCell ⟨g, 0, none⟩ (hv (dropHd h)))).out ⟨?_, ?_, ?_, by simpa using hlen, ?_, by rw [hSt.out], hbb.two2⟩
      · rw [show (dropHd h :: T).length = N by rw [← hN]; simp] at this
        exact this
      · rw [hbb.2.2.2.2 hb hne]
        simpa using hz
      · have h9 := hset
        simp only [List.length_cons] at h9 ⊢
        exact ownH_but h9 (fun k _ => by
          by_cases e : k = g
          · subst e; rfl
          · rw [Below.heap_setCell _ _ _ _ e, Below.heap_setCell _ _ _ _ e]; rfl)
      · intro x hx'
        rcases List.mem_cons.1 hx' with e | e
        · subst e; exact (hh.drop hl).but hbb gB
        · exact (hok x (List.mem_cons_of_mem _ e)).but hbb gB
      · refine kf_tail (H := h :: T) (fun j h1 _ => ?_) (by simp) hp
        cases j with
        | zero => omega
        | succ j => simp [List.getD]
    rw [hN] at hx
    generalize h.2.2.length = n1 at *
    clear hO hok hlen hp hset hsk hfin hh z0 y0 hN hl hz
    go_enter Try.func31, Try.ntmps31
    go_wp2_with fail
    go_quiet (fail)
    go_wp2_with (first
      | (go_at_call 45; refine ((hLf _).out (by rfl)).mono ?_; rintro e w1 ⟨rfl, rfl⟩)
      | (go_at_call 46; refine ((hNx _).out (by rfl)).mono ?_; rintro e w2 ⟨rfl, rfl⟩)
      | (go_at_call 44; refine (hFn _).out.mono ?_; rintro e w3 ⟨rfl, hF⟩))
    go_end0
    exact ⟨rfl, hF⟩
  · have hSt : Hid (stepH (h :: T) = T) := by unfold Hid; simp [stepH, hl]
    have hl1 : h.2.2.length = 1 := by have := hh.2.1.1; omega
    have hlast : T.length < (h :: T).length := by simp
    obtain ⟨zq, yq⟩ := ownH_cell hO T.length hlast
    obtain ⟨x, hxq⟩ : ∃ x, (h :: T)[T.length] = x := ⟨_, rfl⟩
    rw [hxq] at zq
    have hxm : x ∈ h :: T := by rw [← hxq]; exact List.getElem_mem _
    have hxd : (h :: T).getD T.length (none, 0, []) = x := by rw [← hxq]; simp [List.getD]
    have hset := ownH_set hO 0 (by simp) x
    have hLf : ∀ W, Hid (W.heap = w.heap → Calls Try.prog 45 #[.pointer (some ⟨g, 0, none⟩)] W fun e w' => e = .returned (.int .i64 1) ∧ w' = W) := fun W hW => by
      have := left_any (Tk := Tk) 0 g h.2.2 W ((hh.cur gB z0 y0).same (fun k _ _ => by rw [hW]) (Nat.zero_le _))
      rw [hl1] at this
      exact this
    have hFn : ∀ n, Hid (Calls Try.prog 44 #[.slice (some ⟨g, 0, none⟩) T.length cap, .int .i64 0] (((w.drewN n).setCell ⟨g, 0, none⟩ (hv x)).setCell ⟨hb, 0, none⟩ (.slice (some ⟨g, 0, none⟩) T.length cap)) fun e w' => e = .returned (.tuple #[]) ∧ ∃ H', w'.heap[hb]? = some (.cells #[.slice (some ⟨g, 0, none⟩) H'.length cap] 51 (0, 0)) ∧ OwnH w' B (.slice (some ⟨g, 0, none⟩) H'.length cap) H' ∧ H'.Perm (stepH (h :: T)) ∧ Hp (kf H') H'.length 0 ∧ But2 hb g w w') := fun n => by
      have hb1 : ButB g w ((w.drewN n).setCell ⟨g, 0, none⟩ (hv x)) := (ButB.drewN g w n).trans (ButB.set _ _ _ _)
      have hb2 : But2 hb g w (((w.drewN n).setCell ⟨g, 0, none⟩ (hv x)).setCell ⟨hb, 0, none⟩ (.slice (some ⟨g, 0, none⟩) T.length cap)) := hb1.two2.trans (ButB.set _ _ _ _).two1
      have hlen2 : (((h :: T).set 0 x).take T.length).length = T.length := by simp
      have hperm : (((h :: T).set 0 x).take T.length).Perm T := by rw [← hxd]; exact last_perm h T
      have := (hfin (((h :: T).set 0 x).take T.length) (((w.drewN n).setCell ⟨g, 0, none⟩ (hv x)).setCell ⟨hb, 0, none⟩ (.slice (some ⟨g, 0, none⟩) T.length cap))).out ⟨?_, ?_, ?_, by rw [hlen2]; simp at hlen; omega, ?_, by rw [hSt.out]; exact hperm, hb2⟩
      · rw [hlen2] at this
        exact this
      · rw [hlen2]
        have h9 : ((w.drewN n).setCell ⟨g, 0, none⟩ (hv x)).heap[hb]? = some (.cells #[.slice (some ⟨g, 0, none⟩) (h :: T).length cap] 51 (0, 0)) := by
          rw [hb1.2.2.2.2 hb hne]
          exact hz
        exact Go.heap_setCell_same _ _ _ _ _ _ h9
      · have e1 : (h :: T).length = ((h :: T).set 0 x).length := by simp
        rw [e1] at hset
        refine ownH_same (ownH_take hset T.length (by simp)) (fun k hk => ?_)
        simp [Value.ownBlock] at hk
        subst hk
        rw [Below.heap_setCell _ _ _ _ (by show g ≠ hb; exact hne.symm)]
        rfl
      · intro y hy'
        exact (hok y (List.mem_cons_of_mem _ (hperm.mem_iff.1 hy'))).but2 hb2 hbB gB
      · refine kf_tail (H := h :: T) (fun j h1 h2 => ?_) (by rw [hlen2]; simp) hp
        rw [hlen2] at h2
        cases j with
        | zero => omega
        | succ j =>
          simp only [List.getD, List.set_cons_zero]
          rw [List.getElem?_take_of_lt (by omega)]
          simp
    have hx2 : ∀ n, ((w.drewN n).setCell ⟨g, 0, none⟩ (hv x)).cell? ⟨hb, 0, none⟩ = some (.slice (some ⟨g, 0, none⟩) N cap) := fun n => by
      rw [World.cell?_setCell_other _ _ _ _ (by intro hh; injection hh with hh _ _; exact hne hh.symm), ← hN]
      exact hx
    have hNT : (N : Int) - 1 = (T.length : Int) := by rw [← hN]; simp
    have hTc : T.length ≤ cap := by simp at gc; omega
    have hsl : ∀ W, (Instr.sliceAt 51 (.slice (some ⟨g, 0, none⟩) N cap) none (some (.int .i64 (T.length : Int))) none).run Try.prog W = .ok (.slice (some ⟨g, 0, none⟩) T.length cap) W := fun W => half_h g N cap T.length _ rfl hTc W
    have hTN : (T.length : Int) < (N : Int) := by omega
    rw [hN] at hx
    obtain ⟨xa, xc, xl⟩ := x
    dsimp only [hv] at zq hx2 hFn
    have y0' : ∀ n, (w.drewN n).frozen? ⟨g, 0, none⟩ = false := fun n => y0
    have z0' : ∀ n, (w.drewN n).cell? ⟨g, 0, none⟩ = some (hv h) := fun n => z0
    have zq' : ∀ n, (w.drewN n).cell? ⟨g, T.length, none⟩ = some (.slice xa xl.length xc) := fun n => zq
    have hx' : ∀ n, (w.drewN n).cell? ⟨hb, 0, none⟩ = some (.slice (some ⟨g, 0, none⟩) N cap) := fun n => hx
    have hy' : ∀ n, ((w.drewN n).setCell ⟨g, 0, none⟩ (.slice xa xl.length xc)).frozen? ⟨hb, 0, none⟩ = false := fun n => by rw [World.frozen?_setCell]; exact hy
    have t0 : (0 : Int) ≤ (T.length : Int) := Int.natCast_nonneg _
    generalize T.length = L at *
    generalize xl.length = n2 at *
    clear hO hok hlen hp hset hsk hfin hh hN hl hl1 hxq hxm hxd hlast hTc gc yq hz
    go_enter Try.func31, Try.ntmps31
    go_wp2_with fail
    go_quiet (fail)
    go_wp2_with (first
      | (go_at_call 45; refine ((hLf _).out (by rfl)).mono ?_; rintro e w1 ⟨rfl, rfl⟩)
      | (go_at_call 44; refine (hFn _).out.mono ?_; rintro e w3 ⟨rfl, hF⟩))
    go_end0
    exact ⟨rfl, hF⟩
end Pt
end Go.Proofs.Ythpfnajgbocpnaa
