import Derived.Test.YtofghgggllfafaaDoorFlLk3
namespace Go.Proofs.YtofghgggllfafaaDoor
open Go.RowKit
open TextMath
set_option linter.unusedVariables false

/-- The pieces of what is wrong with a node, as the program looks for them. -/
theorem er_parts {r t : List Nod} {n : Nod} (ho : okc r) (g : Nat → Bool) (hg : ∀ j : Nat, j < 65 → g j = ln r (j : Int)) :
    (pf n.dep (ahd r) (aho r) = false → er r n t = 120) ∧ (pf n.dep (ahd r) (aho r) = true → 64 < n.dep → er r n t = 121) ∧ (pf n.dep (ahd r) (aho r) = true → n.dep ≤ 64 → sndN n = false → er r n t = 120) ∧
    (pf n.dep (ahd r) (aho r) = true → n.dep ≤ 64 → sndN n = true → ∀ k : Nat, n.dep = (k : Int) + 1 → g k = true → n.dep ≤ ahd r → er r n t = 120) ∧
    (pf n.dep (ahd r) (aho r) = true → n.dep ≤ 64 → sndN n = true → ∀ k : Nat, n.dep = (k : Int) + 1 → ¬ (g k = true ∧ n.dep ≤ ahd r) → n.op = 2 → nx t (n.dep + 1) = false → er r n t = 120) ∧
    (pf n.dep (ahd r) (aho r) = true → n.dep ≤ 64 → sndN n = true → ∀ k : Nat, n.dep = (k : Int) + 1 → ¬ (g k = true ∧ n.dep ≤ ahd r) → (¬ n.op = 2 ∨ nx t (n.dep + 1) = true) → er r n t = 0) := by
  rw [pf_fol ho]
  have key : ∀ k : Nat, fol r n = true → n.dep ≤ 64 → n.dep = (k : Int) + 1 → sec false r n.dep = (g k && decide (n.dep ≤ ahd r)) := fun k hf h64 hk => by
    rw [← sec_prog ho hf, hg k (by omega)]
    have : n.dep - 1 = (k : Int) := by omega
    rw [this]
  refine ⟨fun h => ?_, fun h h1 => ?_, fun h h1 h2 => ?_, fun h h1 h2 k hk hgk hle => ?_, fun h h1 h2 k hk hgk hop hn => ?_, fun h h1 h2 k hk hgk hop => ?_⟩
  · unfold er; rw [if_pos h]
  · unfold er; rw [if_neg (by rw [h]; simp), if_pos h1]
  · unfold er; rw [if_neg (by rw [h]; simp), if_neg (by omega), if_pos (Or.inl h2)]
  · have hs := key k h h1 hk
    rw [hgk, decide_eq_true hle, Bool.and_self] at hs
    unfold er; rw [if_neg (by rw [h]; simp), if_neg (by omega), if_pos (Or.inr hs)]
  · have hs : sec false r n.dep = false := by
      rw [key k h h1 hk]
      cases e : g k with
      | false => rfl
      | true => rw [decide_eq_false (fun q => hgk ⟨e, q⟩)]; rfl
    unfold er; rw [if_neg (by rw [h]; simp), if_neg (by omega), if_neg (by rw [h2, hs]; simp), if_pos ⟨hop, hn⟩]
  · have hs : sec false r n.dep = false := by
      rw [key k h h1 hk]
      cases e : g k with
      | false => rfl
      | true => rw [decide_eq_false (fun q => hgk ⟨e, q⟩)]; rfl
    unfold er; rw [if_neg (by rw [h]; simp), if_neg (by omega), if_neg (by rw [h2, hs]; simp), if_neg (by
      rintro ⟨q1, q2⟩
      rcases hop with hop | hop
      · exact hop q1
      · rw [hop] at q2; cases q2)]
theorem nx_drop (xs : List Nod) (j : Nat) (d : Int) : nx (xs.drop j) d = true ↔ ∃ h : j < xs.length, xs[j].dep = d := by
  by_cases h : j < xs.length
  · rw [List.drop_eq_getElem_cons h]
    simp [nx, h]
  · rw [List.drop_eq_nil_of_le (by omega)]
    simp [nx, h]
theorem nx_no (xs : List Nod) (j : Nat) (d : Int) (h : ¬ ∃ h : j < xs.length, xs[j].dep = d) : nx (xs.drop j) d = false := by
  cases e : nx (xs.drop j) d with
  | false => rfl
  | true => exact absurd ((nx_drop xs j d).1 e) h
theorem pre_head {xs : List Nod} {k : Nat} (h : k < xs.length) : ahd (pre xs (k + 1)) = xs[k].dep ∧ aho (pre xs (k + 1)) = xs[k].op := by
  rw [pre_succ h]
  exact ⟨rfl, rfl⟩
theorem ln_upd {r : List Nod} {n : Nod} {g : Nat → Bool} {D : Nat} (hg : ∀ j : Nat, j < 65 → g j = ln r (j : Int)) (hD : n.dep = (D : Int)) : ∀ j : Nat, j < 65 → upd g D (decide (n.op = 2)) j = ln (n :: r) (j : Int) := fun j hj => by
  unfold upd
  simp only [ln]
  by_cases e : j = D
  · subst e
    rw [if_pos rfl, if_pos hD]
  · rw [if_neg e, if_neg (by rw [hD]; omega), hg j hj]

theorem look_any (xs : List Nod) (i : Nat) (hi : i < xs.length) (a : Option Addr) (c : Nat) (w0 w : World) (hF : FRow w0 a xs) (hb0 : Below w0.heap.size w0 w) (hw : w0.heap.size < w.heap.size) (g : Nat → Bool) (hN : NB w w0.heap.size g) (hg : ∀ j : Nat, j < 65 → g j = ln (pre xs i) (j : Int)) (hok : okc (pre xs i)) (hn : xs.length ≤ 1048577) (hl : ∀ x ∈ xs, x.l.length ≤ 1048576 ∧ x.desc.length ≤ 1048576 ∧ x.rule.length ≤ 1048576) :
    Calls Tryd.prog 24 #[.pointer (some ⟨w0.heap.size, 0, none⟩), .slice a xs.length c, .int .i64 (i : Int)] w fun e w' => e = .returned (.int .i64 (er (pre xs i) xs[i] (xs.drop (i + 1)))) ∧ Below w0.heap.size w0 w' ∧ (er (pre xs i) xs[i] (xs.drop (i + 1)) = 0 → ∃ g', NB w' w0.heap.size g' ∧ ∀ j : Nat, j < 65 → g' j = ln (pre xs (i + 1)) (j : Int)) := by
  have hFw := hF.below hb0
  obtain ⟨b, off, rfl, c0, c1, c2, c3, c4, c5, c6, c7, c8⟩ := hFw.at i hi
  have hrow := (hFw i hi).2
  obtain ⟨hll, hld, hlr⟩ := hl _ (List.getElem_mem hi)
  obtain ⟨e1, e2, e3, e4, e5, e6⟩ := er_parts (t := xs.drop (i + 1)) (n := xs[i]) hok g hg
  obtain ⟨dN, hdN⟩ : ∃ dN : Int, ∀ h : i + 1 < xs.length, xs[i + 1].dep = dN := by
    by_cases h : i + 1 < xs.length
    · exact ⟨xs[i + 1].dep, fun _ => rfl⟩
    · exact ⟨0, fun h' => absurd h' h⟩
  have hnx : ∀ d, (nx (xs.drop (i + 1)) d = true ↔ (i + 1 < xs.length ∧ dN = d)) := fun d => by
    rw [nx_drop]
    constructor
    · rintro ⟨h, e⟩; exact ⟨h, by rw [← hdN h]; exact e⟩
    · rintro ⟨h, e⟩; exact ⟨h, by rw [hdN h]; exact e⟩
  have hnf : ∀ d, ¬ (i + 1 < xs.length ∧ dN = d) → nx (xs.drop (i + 1)) d = false := fun d h => by
    cases e : nx (xs.drop (i + 1)) d with
    | false => rfl
    | true => exact absurd ((hnx d).1 e) h
  have hcN : ∀ h : i + 1 < xs.length, w.cell? ⟨b, off + (i + 1) * 9, none⟩ = some (.int .i64 dN) := fun h => by
    obtain ⟨b', off', q, k0, _⟩ := hFw.at (i + 1) h
    injection q with q; injection q with q1 q2; subst q1 q2
    rw [← hdN h]
    exact k0
  have mx : (1048576 : Nat) ≤ maxLen := by unfold maxLen; omega
  have fin : ∀ (e : Ending) (w' : World), (e = .returned (.int .i64 (er (pre xs i) xs[i] (xs.drop (i + 1)))) ∧ Below w0.heap.size w0 w' ∧ (er (pre xs i) xs[i] (xs.drop (i + 1)) = 0 → ∃ D : Nat, xs[i].dep = (D : Int) ∧ NB w' w0.heap.size (upd g D (decide (xs[i].op = 2))))) → (e = .returned (.int .i64 (er (pre xs i) xs[i] (xs.drop (i + 1)))) ∧ Below w0.heap.size w0 w' ∧ (er (pre xs i) xs[i] (xs.drop (i + 1)) = 0 → ∃ g', NB w' w0.heap.size g' ∧ ∀ j : Nat, j < 65 → g' j = ln (pre xs (i + 1)) (j : Int))) := by
    rintro e w' ⟨h1, h2, h3⟩
    refine ⟨h1, h2, fun h => ?_⟩
    obtain ⟨D, hD, hNB⟩ := h3 h
    exact ⟨_, hNB, by rw [pre_succ hi]; exact ln_upd hg hD⟩
  cases i with
  | zero =>
    have ha0 : ahd (pre xs 0) = 0 := by rw [pre_zero]; rfl
    have hb0' : aho (pre xs 0) = 0 := by rw [pre_zero]; rfl
    rw [ha0, hb0'] at e1 e2 e3 e4 e5 e6
    refine (look_zero xs.length c b off _ w0 w hb0 hw g hN xs[0].dep xs[0].op (S xs[0].desc) (S xs[0].val) (S xs[0].ini) xs[0].a xs[0].l xs[0].n (S xs[0].fin) (S xs[0].rule) xs[0].dn dN (by simpa using c0) (by simpa using c1) (by simpa using c2) (by simpa using c3) (by simpa using c4) (by simpa using c5) (by simpa using c6) (by simpa using c7) (by simpa using c8) hn hi (fun h => by have := hcN h; simpa using this) hll (Nat.le_trans (S_sz hld) mx) (Nat.le_trans (S_sz hlr) mx) hrow e1 e2 e3 e4 (fun q1 q2 q3 k q4 q5 q6 q7 => e5 q1 q2 q3 k q4 q5 q6 (hnf _ q7)) (fun q1 q2 q3 k q4 q5 q6 => e6 q1 q2 q3 k q4 q5 (q6.imp id (fun q => (hnx _).2 q)))).mono ?_
    exact fin
  | succ k =>
    have hk : k < xs.length := by omega
    obtain ⟨ha0, hb0'⟩ := pre_head hk
    rw [ha0, hb0'] at e1 e2 e3 e4 e5 e6
    obtain ⟨b', off', q, z0, z1, z2, z3, z4, z5, z6, z7, z8⟩ := hFw.at k hk
    injection q with q; injection q with q1 q2; subst q1 q2
    have hbk := hok.2 xs[k] (by rw [pre_succ hk]; exact List.mem_cons_self ..)
    refine (look_pos xs.length c b off k (k + 1) (k + 2) _ w0 w hb0 hw g hN xs[k + 1].dep xs[k + 1].op (S xs[k + 1].desc) (S xs[k + 1].val) (S xs[k + 1].ini) xs[k + 1].a xs[k + 1].l xs[k + 1].n (S xs[k + 1].fin) (S xs[k + 1].rule) xs[k + 1].dn dN c0 c1 c2 c3 c4 c5 c6 c7 c8 ⟨rfl, rfl⟩ xs[k].dep xs[k].op (S xs[k].desc) (S xs[k].val) (S xs[k].ini) xs[k].a xs[k].l.length xs[k].n (S xs[k].fin) (S xs[k].rule) xs[k].dn (by omega) hbk.2 z0 z1 z2 z3 z4 z5 z6 z7 z8 hn hi (fun h => hcN h) hll (Nat.le_trans (S_sz hld) mx) (Nat.le_trans (S_sz hlr) mx) hrow e1 e2 e3 e4 (fun q1 q2 q3 k q4 q5 q6 q7 => e5 q1 q2 q3 k q4 q5 q6 (hnf _ q7)) (fun q1 q2 q3 k q4 q5 q6 => e6 q1 q2 q3 k q4 q5 (q6.imp id (fun q => (hnx _).2 q)))).mono ?_
    exact fin

/-- What Check answers. -/
def chkT (xs : List Nod) : Value := .tuple #[.int .i64 (chkF xs).1, .int .i64 ((chkF xs).2 : Nat)]
def ckZ : Array Value := (List.replicate 65 (Value.bool false)).toArray
@[simp] theorem ck_zero (w : World) : (zeroValue 49).run Tryd.prog w = .ok (.agg ckZ) w := by kernel_rfl
@[simp] theorem ck_ne : ckZ ≠ #[] := fun h => by
  have : ckZ.size = 65 := by kernel_rfl
  rw [h] at this
  cases this
theorem ckZ_at (j : Nat) (h : j < 65) : ckZ[j]? = some (.bool false) := by
  show (List.replicate 65 (Value.bool false)).toArray[j]? = _
  rw [List.getElem?_toArray, List.getElem?_replicate, if_pos h]
theorem NB.new (w : World) : NB (w.alloc (.cells ckZ 49)) w.heap.size (fun _ => false) := ⟨ckZ, Box.new _ _ _, ckZ_at⟩
theorem chk_at {xs : List Nod} {i : Nat} (h : i < xs.length) (hc : chkF xs = chkL (pre xs i) (xs.drop i) i) (he : ¬ er (pre xs i) xs[i] (xs.drop (i + 1)) = 0) : Ending.returned (.tuple #[.int .i64 (er (pre xs i) xs[i] (xs.drop (i + 1))), .int .i64 (i : Int)]) = .returned (chkT xs) := by
  unfold chkT
  rw [hc, chkL_step h, if_neg he]
theorem chk_on {xs : List Nod} {i : Nat} (h : i < xs.length) (hc : chkF xs = chkL (pre xs i) (xs.drop i) i) (he : er (pre xs i) xs[i] (xs.drop (i + 1)) = 0) : chkF xs = chkL (pre xs (i + 1)) (xs.drop (i + 1)) (i + 1) := by
  rw [hc, chkL_step h, if_pos he]
theorem chk_end {xs : List Nod} {i : Nat} (h : ¬ i < xs.length) (hc : chkF xs = chkL (pre xs i) (xs.drop i) i) : Ending.returned (.tuple #[.int .i64 0, .int .i64 0]) = .returned (chkT xs) := by
  unfold chkT
  rw [hc, List.drop_eq_nil_of_le (by omega)]
  rfl
set_option maxRecDepth 100000 in
set_option maxHeartbeats 4000000 in
theorem fCheck_any (xs : List Nod) (a : Option Addr) (c : Nat) (w : World) (hF : FRow w a xs) (hn : xs.length ≤ 1048577) (hl : ∀ x ∈ xs, x.l.length ≤ 1048576 ∧ x.desc.length ≤ 1048576 ∧ x.rule.length ≤ 1048576) :
    Calls Tryd.prog 16 #[.slice a xs.length c] w fun e w' => e = .returned (chkT xs) ∧ Below w.heap.size w w' := by
  by_cases h0 : xs = []
  · subst h0
    go_enter Tryd.func16, Tryd.ntmps16
    go_wp2_with fail
    go_ret2
    exact ⟨rfl, Below.refl _ _⟩
  · have hpos : 0 < xs.length := List.length_pos_iff.2 h0
    have hst : Hid (chkF xs = chkL (pre xs 0) (xs.drop 0) 0) := chkF_start h0
    have hlen : ((xs.length : Int) == 0) = false := by simp; exact h0
    have hlen2 : ¬ (xs.length : Int) = 0 := by omega
    have hlen3 : ¬ xs.length = 0 := by omega
    have H : Hid (FRow w a xs ∧ (∀ x ∈ xs, x.l.length ≤ 1048576 ∧ x.desc.length ≤ 1048576 ∧ x.rule.length ≤ 1048576) ∧ xs.length ≤ 1048577) := ⟨hF, hl, hn⟩
    obtain ⟨w1, hw1⟩ : ∃ W, w.alloc (.cells ckZ 49) = W := ⟨_, rfl⟩
    have hb1 : Below w.heap.size w w1 := by rw [← hw1]; exact (Below.refl _ _).alloc (Nat.le_refl _) _
    have hs1 : w.heap.size < w1.heap.size := by rw [← hw1]; simp
    have hN1 : NB w1 w.heap.size (fun _ => false) := by rw [← hw1]; exact NB.new w
    have I0 : Hid (∃ g, NB w1 w.heap.size g ∧ (∀ j : Nat, j < 65 → g j = ln (pre xs 0) (j : Int)) ∧ okc (pre xs 0) ∧ Below w.heap.size w w1 ∧ w.heap.size < w1.heap.size) := ⟨_, hN1, fun j _ => by rw [pre_zero]; rfl, by rw [pre_zero]; exact okc_nil, hb1, hs1⟩
    clear hF hl hb1 hs1 hN1
    go_enter Tryd.func16, Tryd.ntmps16
    go_upto_region 4 with fail
    clear hw1 hlen hlen2 hlen3 h0
    go_wp2_with fail
    go_loopw [12] (fun iv wr => ∃ i : Nat, i ≤ xs.length ∧ iv = .int .i64 (i : Int) ∧ Hid (chkF xs = chkL (pre xs i) (xs.drop i) i) ∧ Hid (∃ g, NB wr w.heap.size g ∧ (∀ j : Nat, j < 65 → g j = ln (pre xs i) (j : Int)) ∧ okc (pre xs i) ∧ Below w.heap.size w wr ∧ w.heap.size < wr.heap.size)) (fun iv _ => xs.length - (intOf iv).toNat)
    case atStart => exact ⟨0, Nat.zero_le _, rfl, hst, I0⟩
    case round =>
      obtain ⟨i, hi, rfl, hc, hI⟩ := hrel
      clear hst I0
      by_cases hlt : i < xs.length
      · have i0 : (0 : Int) ≤ (i : Int) := Int.natCast_nonneg _
        have i1 : (i : Int) < (xs.length : Int) := Int.ofNat_lt.2 hlt
        obtain ⟨g, hN, hg, hok, hb, hsz⟩ := hI.out
        have hL := look_any xs i hlt a c w wr H.out.1 hb hsz g hN hg hok H.out.2.2 H.out.2.1
        have hstep : Hid (∀ E, er (pre xs i) xs[i] (xs.drop (i + 1)) = E → ¬ E = 0 → Ending.returned (.tuple #[.int .i64 E, .int .i64 (i : Int)]) = .returned (chkT xs)) := fun E hE h => by
          subst hE
          exact chk_at hlt hc.out h
        have hon : Hid (er (pre xs i) xs[i] (xs.drop (i + 1)) = 0 → chkF xs = chkL (pre xs (i + 1)) (xs.drop (i + 1)) (i + 1) ∧ okc (pre xs (i + 1))) := fun h => ⟨chk_on hlt hc.out h, by rw [pre_succ hlt]; exact okc_step hok h⟩
        obtain ⟨E, hE⟩ : ∃ E, er (pre xs i) xs[i] (xs.drop (i + 1)) = E := ⟨_, rfl⟩
        rw [hE] at hL hon
        have hst2 : Hid (¬ E = 0 → Ending.returned (.tuple #[.int .i64 E, .int .i64 (i : Int)]) = .returned (chkT xs)) := hstep.out E hE
        have hL' : Hid (Calls Tryd.prog 24 #[.pointer (some ⟨w.heap.size, 0, none⟩), .slice a xs.length c, .int .i64 (i : Int)] wr fun e w' => e = .returned (.int .i64 E) ∧ Below w.heap.size w w' ∧ (E = 0 → ∃ g', NB w' w.heap.size g' ∧ ∀ j : Nat, j < 65 → g' j = ln (pre xs (i + 1)) (j : Int))) := hL
        have hlt' : Hid (i < xs.length) := hlt
        clear hL hstep hE hlt hN hg hok hI
        by_cases h0 : E = 0
        · subst h0
          go_wp2_with (go_at_call 24; refine hL'.out.mono ?_; rintro e w2 ⟨rfl, hb2, hN2⟩)
          go_roundw
          case rel =>
            obtain ⟨g', q1, q2⟩ := hN2 trivial
            exact ⟨i + 1, hlt'.out, by simp, (hon.out trivial).1, g', q1, q2, (hon.out trivial).2, hb2, by
              obtain ⟨cs, q3, _⟩ := q1
              exact q3.lt⟩
          case measure => have := hlt'.out; simp [intOf]; omega
        · have h0' : (E != 0) = true := by simpa using h0
          have h0'' : (E == 0) = false := by simpa using h0
          go_wp2_with (go_at_call 24; refine hL'.out.mono ?_; rintro e w2 ⟨rfl, hb2, hN2⟩)
          go_ret2
          exact ⟨hst2.out h0, hb2⟩
      · have k1 : ¬ (i : Int) < (xs.length : Int) := by omega
        have hz : Hid (Ending.returned (.tuple #[.int .i64 0, .int .i64 0]) = .returned (chkT xs)) := chk_end hlt hc.out
        obtain ⟨g, hN, hg, hok, hb, hsz⟩ := hI.out
        have hb' : Hid (Below w.heap.size w wr) := hb
        clear hN hg hok hb hsz hI
        go_wp2_with fail
        go_ret2
        exact ⟨hz.out, hb'.out⟩
end Go.Proofs.YtofghgggllfafaaDoor
