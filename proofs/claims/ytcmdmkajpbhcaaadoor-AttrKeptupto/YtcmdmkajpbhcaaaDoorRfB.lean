import Derived.Test.YtcmdmkajpbhcaaaDoorAtEqS
import Derived.Test.YtcmdmkajpbhcaaaDoorAtOrdS
import Derived.BigQuiet
import Derived.Test.YtcmdmkajpbhcaaaDoorAtRefRow
import Derived.Test.YtcmdmkajpbhcaaaDoorAtOrdM
import Derived.Test.YtcmdmkajpbhcaaaDoorRfA
import Derived.Test.YtcmdmkajpbhcaaaDoorAtParse
import Derived.Test.YtcmdmkajpbhcaaaDoorAtInv
namespace Go.Proofs.YtcmdmkajpbhcaaaDoor
set_option linter.unusedVariables false

theorem less_iff : ∀ x y : List UInt8, Op.bytesLess x y = true ↔ x < y
  | _, [] => by simp [Op.bytesLess]
  | [], b :: y => by simp [Op.bytesLess]
  | a :: x, b :: y => by
    rw [List.cons_lt_cons_iff]
    unfold Op.bytesLess
    rw [Bool.or_eq_true, Bool.and_eq_true, decide_eq_true_iff, beq_iff_eq, less_iff x y]
/-- Strictly ascending. -/
def Up (r : List (List UInt8)) : Prop := r.Pairwise (fun x y => x < y)
theorem lt_transL {x y z : List UInt8} (h1 : x < y) (h2 : y < z) : x < z := List.lt_trans h1 h2
theorem lt_irreflL (x : List UInt8) : ¬ x < x := List.lt_irrefl x
theorem up_nodup {r : List (List UInt8)} (h : Up r) : r.Nodup := List.Pairwise.imp (S := fun a b => a ≠ b) (fun {a b} (hab : a < b) (e : a = b) => by subst e; exact lt_irreflL _ hab) h
theorem le_of_ltL {x y : List UInt8} (h : x < y) : x ≤ y := fun q => lt_irreflL x (lt_transL h q)
theorem up_eq {r k : List (List UInt8)} (hr : Up r) (hk : Up k) (h : ∀ z, z ∈ r ↔ z ∈ k) : r = k := by
  have hp : r.Perm k := (List.perm_ext_iff_of_nodup (up_nodup hr) (up_nodup hk)).2 h
  refine List.Perm.eq_of_pairwise (le := fun x y : List UInt8 => x ≤ y) ?_ (hr.imp le_of_ltL) (hk.imp le_of_ltL) hp
  intro x y _ _ h1 h2
  exact List.le_antisymm h1 h2
theorem eq_of_nlt {x y : List UInt8} (h1 : ¬ x < y) (h2 : ¬ y < x) : x = y := List.le_antisymm h2 h1
/-- How far a merging has come. -/
def Mg (a b : List (List UInt8)) (i j : Nat) (o : List (List UInt8)) : Prop :=
  Up o ∧ (∀ z ∈ o, z ∈ a ∨ z ∈ b) ∧ (∀ z ∈ a.take i, z ∈ o ∨ z ∈ b.drop j) ∧ (∀ z ∈ b.take j, z ∈ o) ∧ (∀ z ∈ o, (∀ y ∈ a.drop i, z < y) ∧ (∀ y ∈ b.drop j, z < y)) ∧ o.length ≤ i + j
theorem mg_start (a b : List (List UInt8)) : Mg a b 0 0 [] := ⟨List.Pairwise.nil, by simp, by simp, by simp, by simp, by simp⟩
theorem up_snoc {o : List (List UInt8)} {x : List UInt8} (h : Up o) (hx : ∀ z ∈ o, z < x) : Up (o ++ [x]) := by
  unfold Up
  rw [List.pairwise_append]
  exact ⟨h, List.pairwise_singleton _ _, fun z hz y hy => by rw [List.mem_singleton.1 hy]; exact hx z hz⟩
theorem up_head {a : List (List UInt8)} (h : Up a) {i : Nat} (hi : i < a.length) : ∀ y ∈ a.drop (i + 1), a[i] < y := by
  have h1 : Up (a.drop i) := List.Pairwise.sublist (List.drop_sublist i a) h
  rw [List.drop_eq_getElem_cons hi] at h1
  exact (List.pairwise_cons.1 h1).1
theorem mg_left {a b o : List (List UInt8)} {i j : Nat} (h : Mg a b i j o) (hi : i < a.length) (ha : Up a) (hx : ∀ y ∈ b.drop j, a[i] < y) : Mg a b (i + 1) j (o ++ [a[i]]) := by
  obtain ⟨h1, h2, h3, h4, h5, h6⟩ := h
  have hd := List.drop_eq_getElem_cons hi
  refine ⟨up_snoc h1 (fun z hz => (h5 z hz).1 _ (by rw [hd]; exact List.mem_cons_self)), fun z hz => ?_, fun z hz => ?_, fun z hz => List.mem_append_left _ (h4 z hz), fun z hz => ?_, ?_⟩
  · rcases List.mem_append.1 hz with hz | hz
    · exact h2 z hz
    · rw [List.mem_singleton.1 hz]; exact Or.inl (List.getElem_mem hi)
  · rw [List.take_succ_eq_append_getElem hi] at hz
    rcases List.mem_append.1 hz with hz | hz
    · rcases h3 z hz with q | q
      · exact Or.inl (List.mem_append_left _ q)
      · exact Or.inr q
    · exact Or.inl (List.mem_append_right _ hz)
  · rcases List.mem_append.1 hz with hz | hz
    · exact ⟨fun y hy => (h5 z hz).1 y (by rw [hd]; exact List.mem_cons_of_mem _ hy), (h5 z hz).2⟩
    · rw [List.mem_singleton.1 hz]; exact ⟨up_head ha hi, hx⟩
  · rw [List.length_append]; simp; omega
theorem mg_right {a b o : List (List UInt8)} {i j : Nat} (h : Mg a b i j o) (hj : j < b.length) (hb : Up b) (hx : ∀ y ∈ a.drop i, b[j] < y) : Mg a b i (j + 1) (o ++ [b[j]]) := by
  obtain ⟨h1, h2, h3, h4, h5, h6⟩ := h
  have hd := List.drop_eq_getElem_cons hj
  refine ⟨up_snoc h1 (fun z hz => (h5 z hz).2 _ (by rw [hd]; exact List.mem_cons_self)), fun z hz => ?_, fun z hz => ?_, fun z hz => ?_, fun z hz => ?_, ?_⟩
  · rcases List.mem_append.1 hz with hz | hz
    · exact h2 z hz
    · rw [List.mem_singleton.1 hz]; exact Or.inr (List.getElem_mem hj)
  · rcases h3 z hz with q | q
    · exact Or.inl (List.mem_append_left _ q)
    · rw [hd] at q
      rcases List.mem_cons.1 q with q | q
      · exact Or.inl (List.mem_append_right _ (List.mem_singleton.2 q))
      · exact Or.inr q
  · rw [List.take_succ_eq_append_getElem hj] at hz
    rcases List.mem_append.1 hz with hz | hz
    · exact List.mem_append_left _ (h4 z hz)
    · exact List.mem_append_right _ hz
  · rcases List.mem_append.1 hz with hz | hz
    · exact ⟨(h5 z hz).1, fun y hy => (h5 z hz).2 y (by rw [hd]; exact List.mem_cons_of_mem _ hy)⟩
    · rw [List.mem_singleton.1 hz]; exact ⟨hx, up_head hb hj⟩
  · rw [List.length_append]; simp; omega
theorem mg_skip {a b o : List (List UInt8)} {i j : Nat} (h : Mg a b i j o) (hi : i < a.length) (hj : j < b.length) (e : a[i] = b[j]) : Mg a b (i + 1) j o := by
  obtain ⟨h1, h2, h3, h4, h5, h6⟩ := h
  refine ⟨h1, h2, fun z hz => ?_, h4, fun z hz => ⟨fun y hy => (h5 z hz).1 y (by rw [List.drop_eq_getElem_cons hi]; exact List.mem_cons_of_mem _ hy), (h5 z hz).2⟩, by omega⟩
  rw [List.take_succ_eq_append_getElem hi] at hz
  rcases List.mem_append.1 hz with hz | hz
  · exact h3 z hz
  · right
    rw [List.mem_singleton.1 hz, e, List.drop_eq_getElem_cons hj]
    exact List.mem_cons_self
theorem mg_end {a b o : List (List UInt8)} (h : Mg a b a.length b.length o) : Up o ∧ (∀ z, z ∈ o ↔ z ∈ a ∨ z ∈ b) ∧ o.length ≤ a.length + b.length := by
  obtain ⟨h1, h2, h3, h4, h5, h6⟩ := h
  refine ⟨h1, fun z => ⟨h2 z, fun q => ?_⟩, h6⟩
  rw [List.take_length] at h3 h4
  rcases q with q | q
  · rcases h3 z q with r | r
    · exact r
    · rw [List.drop_length] at r; simp at r
  · exact h4 z q
theorem up_all {b : List (List UInt8)} (h : Up b) {j : Nat} (hj : j < b.length) {x : List UInt8} (hx : x < b[j]) : ∀ y ∈ b.drop j, x < y := by
  intro y hy
  rw [List.drop_eq_getElem_cons hj] at hy
  rcases List.mem_cons.1 hy with rfl | hy
  · exact hx
  · exact lt_transL hx (up_head h hj y hy)
end Go.Proofs.YtcmdmkajpbhcaaaDoor

namespace Go.Proofs.YtcmdmkajpbhcaaaDoor
open Go.RowKit
set_option linter.unusedVariables false

theorem Row.take {w : World} {a : Option Addr} {l : List (List UInt8)} (h : Row w a l) (k : Nat) : Row w a (l.take k) := fun i hi => by
  rw [List.length_take] at hi
  obtain ⟨b, off, e, h1⟩ := h i (by omega)
  refine ⟨b, off, e, ?_⟩
  rw [h1, List.getElem_take]
theorem Row.drop {w : World} {b off : Nat} {l : List (List UInt8)} (h : Row w (some ⟨b, off, none⟩) l) (k : Nat) : Row w (some ⟨b, off + k, none⟩) (l.drop k) := fun i hi => by
  rw [List.length_drop] at hi
  obtain ⟨b', off', e, h1⟩ := h (k + i) (by omega)
  injection e with e
  injection e with e1 e2
  subst e1 e2
  refine ⟨b, off + k, rfl, ?_⟩
  rw [Nat.add_assoc, h1, List.getElem_drop]
theorem drewN_belowS (W : World) (B q : Nat) : Below B W (W.drewN q) := ⟨rfl, rfl, rfl, Nat.le_refl _, fun _ _ => rfl⟩
theorem ownS_len {w : World} {B n cap : Nat} {a : Option Addr} {l : List (List UInt8)} (h : OwnS w B (.slice a n cap) l) : n ≤ cap := by
  rcases h with ⟨_, ⟨h1, _⟩ | ⟨g', cap', cur, h1, _, _, h5, _⟩⟩
  · injection h1 with _ h2 _
    rw [h2]
    exact Nat.zero_le _
  · injection h1 with h1 h2 h3
    subst h2 h3
    exact h5
/-- What sorted answers. -/
def SrtQ (l : List (List UInt8)) (a0 : Option Addr) (B : Nat) (W : World) (e : Ending) (w' : World) : Prop :=
  (∃ a r c, e = .returned (.slice a r.length c) ∧ Row w' a r ∧ Up r ∧ (∀ z, z ∈ r ↔ z ∈ l) ∧ r.length ≤ l.length ∧ r.length ≤ c ∧ (a = a0 ∨ ∀ b off, a = some ⟨b, off, none⟩ → B ≤ b)) ∧ Below B W w'
set_option maxRecDepth 100000 in
set_option maxHeartbeats 1000000 in
theorem sorted_short (l : List (List UInt8)) (a : Option Addr) (c : Nat) (w : World) (hr : Row w a l) (hc : l.length ≤ c) (h2 : l.length < 2) :
    Calls Tryd.prog 36 #[.slice a l.length c] w fun e w' => SrtQ l a w.heap.size w e w' := by
  have h1 : (l.length : Int) < 2 := by omega
  have hr' : Hid (Row w a l) := hr
  have hc' : Hid (l.length ≤ c) := hc
  have hu : Hid (Up l) := by
    unfold Hid Up
    match l, h2 with
    | [], _ => exact List.Pairwise.nil
    | [x], _ => exact List.pairwise_singleton _ _
    | _ :: _ :: _, h => exfalso; simp only [List.length_cons] at h; omega
  clear hr hc h2
  go_enter Tryd.func36, Tryd.ntmps36
  go_wp2_with fail
  go_ret
  exact ⟨⟨a, l, c, rfl, hr'.out, hu.out, fun z => Iff.rfl, Nat.le_refl _, hc'.out, Or.inl rfl⟩, Below.refl _ _⟩
set_option maxRecDepth 100000 in
set_option maxHeartbeats 4000000 in
theorem sorted_step (n : Nat) (ih : ∀ (l : List (List UInt8)) (a : Option Addr) (c : Nat) (w : World), l.length ≤ n → Row w a l → l.length ≤ c → l.length ≤ 4194304 → Calls Tryd.prog 36 #[.slice a l.length c] w fun e w' => SrtQ l a w.heap.size w e w')
    (l : List (List UInt8)) (a : Option Addr) (c : Nat) (w : World) (hn : l.length ≤ n + 1) (hr : Row w a l) (hc : l.length ≤ c) (hl : l.length ≤ 4194304) (h2 : ¬ l.length < 2) :
    Calls Tryd.prog 36 #[.slice a l.length c] w fun e w' => SrtQ l a w.heap.size w e w' := by
  have h1 : ¬ (l.length : Int) < 2 := by omega
  obtain ⟨b, off, rfl, hx0⟩ := hr 0 (by omega)
  obtain ⟨k, hk⟩ : ∃ k, l.length / 2 = k := ⟨_, rfl⟩
  have hk1 : 1 ≤ k ∧ k < l.length := by omega
  have hdiv : (l.length : Int).tdiv 2 = (k : Int) := by rw [← hk]; rfl
  have k0 : (0 : Int) ≤ (k : Int) := Int.natCast_nonneg _
  have k1 : (k : Int) ≤ (c : Int) := by omega
  have k2 : (k : Int) ≤ (l.length : Int) := by omega
  have k3 : k < c := by omega
  have k4 : ¬ k = c := by omega
  have k5 : ¬ c = k := by omega
  have k6 : ¬ c - k = 0 := by omega
  have hT1 : Hid (Calls Tryd.prog 36 #[.slice (some ⟨b, off, none⟩) k c] w fun e w' => SrtQ (l.take k) (some ⟨b, off, none⟩) w.heap.size w e w') := by
    have h := ih (l.take k) (some ⟨b, off, none⟩) c w (by rw [List.length_take]; omega) (hr.take k) (by rw [List.length_take]; omega) (by rw [List.length_take]; omega)
    rw [List.length_take, Nat.min_eq_left (by omega)] at h
    exact h
  have hT2 : ∀ W, Below w.heap.size w W → Hid (Calls Tryd.prog 36 #[.slice (some ⟨b, off + k, none⟩) (l.length - k) (c - k)] W fun e w' => SrtQ (l.drop k) (some ⟨b, off + k, none⟩) W.heap.size W e w') := fun W hW => by
    have h := ih (l.drop k) (some ⟨b, off + k, none⟩) (c - k) W (by rw [List.length_drop]; omega) ((hr.below hW).drop k) (by rw [List.length_drop]; omega) (by rw [List.length_drop]; omega)
    rw [List.length_drop] at h
    exact h
  have hlk : Hid (k < l.length ∧ l.length ≤ 4194304) := ⟨hk1.2, hl⟩
  clear hx0
  clear hr hn h2 hk hk1 ih
  go_enter Tryd.func36, Tryd.ntmps36
  go_wp2_with fail
  refine hT1.out.mono ?_
  rintro e W1 ⟨⟨a1, r1, c1, rfl, hr1, hu1, hm1, hl1, hc1, hx1⟩, hb1⟩
  have hT3 := hT2 W1 hb1
  have hr1' : Hid (Row W1 a1 r1) := hr1
  have hf1 : Hid (Up r1 ∧ (∀ z, z ∈ r1 ↔ z ∈ l.take k) ∧ r1.length ≤ k) := ⟨hu1, hm1, by rw [List.length_take] at hl1; omega⟩
  have o1 : Hid (Below w.heap.size w W1) := hb1
  clear hT1 hT2 hr1 hu1 hm1 hl1 hb1 hc1 hx1
  go_wp2_with fail
  refine hT3.out.mono ?_
  rintro e W2 ⟨⟨a2, r2, c2, rfl, hr2, hu2, hm2, hl2, hc2, hx2⟩, hb2⟩
  have hR1 : Hid (Row W2 a1 r1) := hr1'.out.below hb2
  have hR2 : Hid (Row W2 a2 r2) := hr2
  have hf2 : Hid (Up r2 ∧ (∀ z, z ∈ r2 ↔ z ∈ l.drop k) ∧ r2.length ≤ l.length - k) := ⟨hu2, hm2, by rw [List.length_drop] at hl2; exact hl2⟩
  have o2 : Hid (Below w.heap.size w W2) := o1.out.trans (hb2.mono o1.out.size)
  have e1 : r1.length ≤ 4194304 := by have := hf1.out.2.2; have := hlk.out; omega
  have e2 : r2.length ≤ 4194304 := by have := hf2.out.2.2; have := hlk.out; omega
  clear hT3 hr2 hu2 hm2 hl2 hb2 hc2 hx2 o1 hr1' k0 k1 k2 k3 k4 k5 k6 hdiv h1
  go_wp2_with fail
  go_loopw [5, 6, 7] (fun ov iv jv wr => ∃ (i j : Nat) (o : List (List UInt8)), i ≤ r1.length ∧ j ≤ r2.length ∧ iv = .int .i64 (i : Int) ∧ jv = .int .i64 (j : Int) ∧ (∃ oa ol oc, ov = .slice oa ol oc ∧ OwnS wr W2.heap.size (.slice oa ol oc) o) ∧ Below W2.heap.size W2 wr ∧ Hid (Mg r1 r2 i j o)) (fun _ iv jv _ => (r1.length + r2.length) - ((intOf iv).toNat + (intOf jv).toNat))
  case atStart => exact ⟨0, 0, [], Nat.zero_le _, Nat.zero_le _, rfl, rfl, ⟨none, 0, 0, rfl, ownS_nil _ _⟩, Below.refl _ _, mg_start _ _⟩
  case round =>
    obtain ⟨i, j, o, hi, hj, rfl, rfl, ⟨oa, ol, oc, rfl, hown0⟩, hB0, hM⟩ := hrel
    have hown : Hid (OwnS wr W2.heap.size (.slice oa ol oc) o) := hown0
    have hB : Hid (Below W2.heap.size W2 wr) := hB0
    have hsz : W2.heap.size ≤ wr.heap.size := hB0.size
    have hol : Hid (o.length ≤ 4194304) := by have := hM.out.2.2.2.2.2; have := hf1.out.2.2; have := hf2.out.2.2; have := hlk.out; unfold Hid; omega
    clear hown0 hB0
    have i0 : (0 : Int) ≤ (i : Int) := Int.natCast_nonneg _
    have j0 : (0 : Int) ≤ (j : Int) := Int.natCast_nonneg _
    by_cases hil : i < r1.length
    · have i1 : (i : Int) < (r1.length : Int) := Int.ofNat_lt.2 hil
      have i2 : ((i : Int) == (r1.length : Int)) = false := by rw [beq_eq_false_iff_ne]; omega
      obtain ⟨b1, f1, e3, x1⟩ := (hR1.out.below hB.out) i hil
      obtain ⟨XL, hXL⟩ : ∃ x, r1[i] = x := ⟨_, rfl⟩
      rw [hXL] at x1
      obtain ⟨X, hSX0⟩ : ∃ X, S XL = X := ⟨_, rfl⟩
      have hSX : Hid (S XL = X) := hSX0
      rw [hSX0] at x1
      have hXd : X.toList = XL := by rw [← hSX0, toListS]
      by_cases hjl : j < r2.length
      · have j1 : (j : Int) < (r2.length : Int) := Int.ofNat_lt.2 hjl
        have j2 : ((j : Int) == (r2.length : Int)) = false := by rw [beq_eq_false_iff_ne]; omega
        obtain ⟨b2, f2, e4, x2⟩ := (hR2.out.below hB.out) j hjl
        obtain ⟨YL, hYL⟩ : ∃ x, r2[j] = x := ⟨_, rfl⟩
        rw [hYL] at x2
        obtain ⟨Y, hSY0⟩ : ∃ Y, S YL = Y := ⟨_, rfl⟩
        have hSY : Hid (S YL = Y) := hSY0
        rw [hSY0] at x2
        have hYd : Y.toList = YL := by rw [← hSY0, toListS]
        subst e3 e4
        by_cases hxy : XL < YL
        · have hls : Op.bytesLess X.toList Y.toList = true := by rw [hXd, hYd]; exact (less_iff _ _).2 hxy
          have hMn : Hid (Mg r1 r2 (i + 1) j (o ++ [XL])) := by
            have h := mg_left hM.out hil hf1.out.1 (up_all hf2.out.1 hjl (by rw [hXL, hYL]; exact hxy))
            rw [hXL] at h
            exact h
          have hil' : Hid (i < r1.length ∧ j < r2.length) := ⟨hil, hjl⟩
          clear hM hXL hYL hSX0 hSY0 hXd hYd hxy
          go_wp2_with fail
          go_quiet (fail)
          have hownD : OwnS (wr.drewN nq) W2.heap.size (.slice oa ol oc) o := ownS_of hown.out (fun _ _ => rfl)
          have hBD : Below W2.heap.size W2 (wr.drewN nq) := hB.out.trans (drewN_belowS _ _ _)
          have hszD : W2.heap.size ≤ (wr.drewN nq).heap.size := hsz
          have x1d : (wr.drewN nq).cell? ⟨b1, f1 + i, none⟩ = some (.string X) := x1
          have x2d : (wr.drewN nq).cell? ⟨b2, f2 + j, none⟩ = some (.string Y) := x2
          go_wp2_with (at_builtin; refine push_text _ rfl _ _ rfl W2.heap.size _ o XL _ rfl rfl ?_ ?_ ?_ hol.out ?_; (exact World.ownsRow.alloc hownD _); (rw [hSX.out]; exact heap_alloc_new _ _); (simp; omega); intro g6 cap6 w6 hown6 hgr6 hlie6 hb6)
          refine ⟨⟨i + 1, j, o ++ [XL], hil'.out.1, Nat.le_of_lt hil'.out.2, by simp, rfl, ⟨_, _, _, rfl, hown6⟩, (hBD.alloc hszD _).trans hb6, hMn⟩, ?_⟩
          have := hil'.out
          simp [intOf]
          omega
        · have hls : Op.bytesLess X.toList Y.toList = false := by rw [hXd, hYd, Bool.eq_false_iff]; exact fun q => hxy ((less_iff _ _).1 q)
          by_cases hyx : YL < XL
          · have hls2 : Op.bytesLess Y.toList X.toList = true := by rw [hXd, hYd]; exact (less_iff _ _).2 hyx
            have hMn : Hid (Mg r1 r2 i (j + 1) (o ++ [YL])) := by
              have h := mg_right hM.out hjl hf2.out.1 (up_all hf1.out.1 hil (by rw [hXL, hYL]; exact hyx))
              rw [hYL] at h
              exact h
            have hil' : Hid (i < r1.length ∧ j < r2.length) := ⟨hil, hjl⟩
            clear hM hXL hYL hSX0 hSY0 hXd hYd hxy hyx
            go_wp2_with fail
            go_quiet (fail)
            have hownD : OwnS (wr.drewN nq) W2.heap.size (.slice oa ol oc) o := ownS_of hown.out (fun _ _ => rfl)
            have hBD : Below W2.heap.size W2 (wr.drewN nq) := hB.out.trans (drewN_belowS _ _ _)
            have hszD : W2.heap.size ≤ (wr.drewN nq).heap.size := hsz
            have x1d : (wr.drewN nq).cell? ⟨b1, f1 + i, none⟩ = some (.string X) := x1
            have x2d : (wr.drewN nq).cell? ⟨b2, f2 + j, none⟩ = some (.string Y) := x2
            generalize wr.drewN nq = wd at *
            clear x1 x2 hown hB hsz
            go_wp2_with fail
            go_quiet (fail)
            have hownE : OwnS (wd.drewN nq) W2.heap.size (.slice oa ol oc) o := ownS_of hownD (fun _ _ => rfl)
            have hBE : Below W2.heap.size W2 (wd.drewN nq) := hBD.trans (drewN_belowS _ _ _)
            have hszE : W2.heap.size ≤ (wd.drewN nq).heap.size := hszD
            have x1e : (wd.drewN nq).cell? ⟨b1, f1 + i, none⟩ = some (.string X) := x1d
            have x2e : (wd.drewN nq).cell? ⟨b2, f2 + j, none⟩ = some (.string Y) := x2d
            go_wp2_with (at_builtin; refine push_text _ rfl _ _ rfl W2.heap.size _ o YL _ rfl rfl ?_ ?_ ?_ hol.out ?_; (exact World.ownsRow.alloc hownE _); (rw [hSY.out]; exact heap_alloc_new _ _); (simp; omega); intro g6 cap6 w6 hown6 hgr6 hlie6 hb6)
            refine ⟨⟨i, j + 1, o ++ [YL], Nat.le_of_lt hil'.out.1, hil'.out.2, rfl, by simp, ⟨_, _, _, rfl, hown6⟩, (hBE.alloc hszE _).trans hb6, hMn⟩, ?_⟩
            have := hil'.out
            simp [intOf]
            omega
          · have hls2 : Op.bytesLess Y.toList X.toList = false := by rw [hXd, hYd, Bool.eq_false_iff]; exact fun q => hyx ((less_iff _ _).1 q)
            have hMn : Hid (Mg r1 r2 (i + 1) j o) := mg_skip hM.out hil hjl (by rw [hXL, hYL]; exact eq_of_nlt hxy hyx)
            have hil' : Hid (i < r1.length ∧ j < r2.length) := ⟨hil, hjl⟩
            clear hM hXL hYL hSX0 hSY0 hXd hYd hxy hyx
            go_wp2_with fail
            go_quiet (fail)
            have hownD : OwnS (wr.drewN nq) W2.heap.size (.slice oa ol oc) o := ownS_of hown.out (fun _ _ => rfl)
            have hBD : Below W2.heap.size W2 (wr.drewN nq) := hB.out.trans (drewN_belowS _ _ _)
            have hszD : W2.heap.size ≤ (wr.drewN nq).heap.size := hsz
            have x1d : (wr.drewN nq).cell? ⟨b1, f1 + i, none⟩ = some (.string X) := x1
            have x2d : (wr.drewN nq).cell? ⟨b2, f2 + j, none⟩ = some (.string Y) := x2
            generalize wr.drewN nq = wd at *
            clear x1 x2 hown hB hsz
            go_wp2_with fail
            go_quiet (fail)
            have hownE : OwnS (wd.drewN nq) W2.heap.size (.slice oa ol oc) o := ownS_of hownD (fun _ _ => rfl)
            have hBE : Below W2.heap.size W2 (wd.drewN nq) := hBD.trans (drewN_belowS _ _ _)
            have hszE : W2.heap.size ≤ (wd.drewN nq).heap.size := hszD
            have x1e : (wd.drewN nq).cell? ⟨b1, f1 + i, none⟩ = some (.string X) := x1d
            have x2e : (wd.drewN nq).cell? ⟨b2, f2 + j, none⟩ = some (.string Y) := x2d
            go_wp2_with fail
            go_roundw
            case rel => exact ⟨i + 1, j, o, hil'.out.1, Nat.le_of_lt hil'.out.2, by simp, rfl, ⟨_, _, _, rfl, hownE⟩, hBE, hMn⟩
            case measure => have := hil'.out; simp [intOf]; omega
      · have hje : j = r2.length := by omega
        have j1 : ¬ (j : Int) < (r2.length : Int) := by omega
        have j2 : ((j : Int) == (r2.length : Int)) = true := by rw [beq_iff_eq]; omega
        subst e3
        have hMn : Hid (Mg r1 r2 (i + 1) j (o ++ [XL])) := by
          have h := mg_left hM.out hil hf1.out.1 (by rw [hje, List.drop_length]; simp)
          rw [hXL] at h
          exact h
        have hil' : Hid (i < r1.length ∧ j ≤ r2.length) := ⟨hil, hj⟩
        clear hM hXL hSX0 hXd hje
        go_wp2_with fail
        go_quiet (fail)
        have hownD : OwnS (wr.drewN nq) W2.heap.size (.slice oa ol oc) o := ownS_of hown.out (fun _ _ => rfl)
        have hBD : Below W2.heap.size W2 (wr.drewN nq) := hB.out.trans (drewN_belowS _ _ _)
        have hszD : W2.heap.size ≤ (wr.drewN nq).heap.size := hsz
        have x1d : (wr.drewN nq).cell? ⟨b1, f1 + i, none⟩ = some (.string X) := x1
        go_wp2_with (at_builtin; refine push_text _ rfl _ _ rfl W2.heap.size _ o XL _ rfl rfl ?_ ?_ ?_ hol.out ?_; (exact World.ownsRow.alloc hownD _); (rw [hSX.out]; exact heap_alloc_new _ _); (simp; omega); intro g6 cap6 w6 hown6 hgr6 hlie6 hb6)
        refine ⟨⟨i + 1, j, o ++ [XL], hil'.out.1, hil'.out.2, by simp, rfl, ⟨_, _, _, rfl, hown6⟩, (hBD.alloc hszD _).trans hb6, hMn⟩, ?_⟩
        have := hil'.out
        simp [intOf]
        omega
    · have hie : i = r1.length := by omega
      have i1 : ¬ (i : Int) < (r1.length : Int) := by omega
      have i2 : ((i : Int) == (r1.length : Int)) = true := by rw [beq_iff_eq]; omega
      by_cases hjl : j < r2.length
      · have j1 : (j : Int) < (r2.length : Int) := Int.ofNat_lt.2 hjl
        have j2 : ((j : Int) == (r2.length : Int)) = false := by rw [beq_eq_false_iff_ne]; omega
        obtain ⟨b2, f2, e4, x2⟩ := (hR2.out.below hB.out) j hjl
        obtain ⟨YL, hYL⟩ : ∃ x, r2[j] = x := ⟨_, rfl⟩
        rw [hYL] at x2
        obtain ⟨Y, hSY0⟩ : ∃ Y, S YL = Y := ⟨_, rfl⟩
        have hSY : Hid (S YL = Y) := hSY0
        rw [hSY0] at x2
        subst e4
        have hMn : Hid (Mg r1 r2 i (j + 1) (o ++ [YL])) := by
          have h := mg_right hM.out hjl hf2.out.1 (by rw [hie, List.drop_length]; simp)
          rw [hYL] at h
          exact h
        have hil' : Hid (i ≤ r1.length ∧ j < r2.length) := ⟨hi, hjl⟩
        clear hM hYL hSY0 hie
        go_wp2_with fail
        go_quiet (fail)
        have hownD : OwnS (wr.drewN nq) W2.heap.size (.slice oa ol oc) o := ownS_of hown.out (fun _ _ => rfl)
        have hBD : Below W2.heap.size W2 (wr.drewN nq) := hB.out.trans (drewN_belowS _ _ _)
        have hszD : W2.heap.size ≤ (wr.drewN nq).heap.size := hsz
        have x2d : (wr.drewN nq).cell? ⟨b2, f2 + j, none⟩ = some (.string Y) := x2
        generalize wr.drewN nq = wd at *
        clear x2 hown hB hsz
        go_wp2_with fail
        go_quiet (fail)
        have hownE : OwnS (wd.drewN nq) W2.heap.size (.slice oa ol oc) o := ownS_of hownD (fun _ _ => rfl)
        have hBE : Below W2.heap.size W2 (wd.drewN nq) := hBD.trans (drewN_belowS _ _ _)
        have hszE : W2.heap.size ≤ (wd.drewN nq).heap.size := hszD
        have x2e : (wd.drewN nq).cell? ⟨b2, f2 + j, none⟩ = some (.string Y) := x2d
        go_wp2_with (at_builtin; refine push_text _ rfl _ _ rfl W2.heap.size _ o YL _ rfl rfl ?_ ?_ ?_ hol.out ?_; (exact World.ownsRow.alloc hownE _); (rw [hSY.out]; exact heap_alloc_new _ _); (simp; omega); intro g6 cap6 w6 hown6 hgr6 hlie6 hb6)
        refine ⟨⟨i, j + 1, o ++ [YL], hil'.out.1, hil'.out.2, rfl, by simp, ⟨_, _, _, rfl, hown6⟩, (hBE.alloc hszE _).trans hb6, hMn⟩, ?_⟩
        have := hil'.out
        simp [intOf]
        omega
      · have hje : j = r2.length := by omega
        have j1 : ¬ (j : Int) < (r2.length : Int) := by omega
        subst hie hje
        have hE := mg_end hM.out
        have hfin : Hid (Up o ∧ (∀ z, z ∈ o ↔ z ∈ l) ∧ o.length ≤ l.length) := by
          refine ⟨hE.1, fun z => ?_, by have := hE.2.2; have := hf1.out.2.2; have := hf2.out.2.2; have := hlk.out; omega⟩
          rw [hE.2.1 z, hf1.out.2.1 z, hf2.out.2.1 z]
          conv => rhs; rw [← List.take_append_drop k l]
          rw [List.mem_append]
        obtain ⟨va, vc, he, hrow⟩ := ownS_trow hown.out
        injection he with he1 he2 he3
        subst he1 he2 he3
        have hcap : o.length ≤ oc := by
          rcases ownS_form hown.out with ⟨q1, q2⟩ | ⟨g, cap, q1⟩
          · rw [q2]; exact Nat.zero_le _
          · exact ownS_len hown.out
        have hplc : ∀ b off, oa = some ⟨b, off, none⟩ → w.heap.size ≤ b := by
          intro b off q
          rcases ownS_form hown.out with ⟨q1, _⟩ | ⟨g, cap, q1⟩
          · injection q1 with q1
            rw [q1] at q
            cases q
          · injection q1 with q2 _ _
            have h3 := (ownS_lt hown.out (g := g) (by rw [q2]; rfl)).1
            rw [q2] at q
            injection q with q
            injection q with q _
            have := o2.out.size
            omega
        have hrow' : Hid (Row wr oa o ∧ o.length ≤ oc ∧ ∀ b off, oa = some ⟨b, off, none⟩ → w.heap.size ≤ b) := ⟨TRow.row hrow, hcap, hplc⟩
        have oB : Hid (Below w.heap.size w wr) := o2.out.trans (hB.out.mono o2.out.size)
        clear hM hE hrow hcap hplc
        go_wp2_with fail
        go_ret
        exact ⟨⟨_, o, _, rfl, hrow'.out.1, hfin.out.1, hfin.out.2.1, hfin.out.2.2, hrow'.out.2.1, Or.inr hrow'.out.2.2⟩, oB.out⟩
theorem sorted_any : ∀ (n : Nat) (l : List (List UInt8)) (a : Option Addr) (c : Nat) (w : World), l.length ≤ n → Row w a l → l.length ≤ c → l.length ≤ 4194304 →
    Calls Tryd.prog 36 #[.slice a l.length c] w fun e w' => SrtQ l a w.heap.size w e w' := by
  intro n
  induction n with
  | zero => exact fun l a c w hn hr hc hl => sorted_short l a c w hr hc (by omega)
  | succ n ih =>
    intro l a c w hn hr hc hl
    by_cases h2 : l.length < 2
    · exact sorted_short l a c w hr hc h2
    · exact sorted_step n ih l a c w hn hr hc hl h2
end Go.Proofs.YtcmdmkajpbhcaaaDoor

namespace Go.Proofs.YtcmdmkajpbhcaaaDoor
open Go.RowKit
open TextMath (fold lo)
set_option linter.unusedVariables false

def KndTab (W : World) : Prop := ∀ i c, i < 62 → c < 3 → W.cell? ⟨0, i * 3 + c, none⟩ = some (.int .i64 ((KND.getD i []).getD c 0))
theorem KndTab.below {w w' : World} (h : KndTab w) (hb : Below w.heap.size w w') : KndTab w' := fun i c hi hc => by
  rw [hb.cell (World.block_lt_of_cell? w _ (h i c hi hc))]; exact h i c hi hc
set_option maxRecDepth 100000 in
set_option maxHeartbeats 1000000 in
theorem canonR_any (s : ByteArray) (w : World) (hs : s.size ≤ 140737488355328) :
    Calls Tryd.prog 35 #[.string s] w fun e w' => e = .returned (.string (canN (S (fold s.data.toList)))) ∧ Below w.heap.size w w' := by
  have hR := refRow_any s w hs
  have hF : ∀ W, Hid (Calls Tryd.prog 21 #[.string s] W fun e w' => e = .returned (.string (S (fold s.data.toList))) ∧ Below W.heap.size W w') := fun W => rFold_any s W hs
  generalize S (fold s.data.toList) = f at *
  go_enter Tryd.func35, Tryd.ntmps35
  go_wp2_with fail
  refine hR.mono ?_
  rintro e W1 ⟨rfl, hb1⟩
  have o1 : Hid (Below w.heap.size w W1) := hb1
  clear hR hb1
  cases hr : rowOf f with
  | none =>
    have hn : rowN f = -1 := by unfold rowN; rw [hr]
    have hc : Hid (canN f = f) := by unfold Hid canN; rw [hr]
    rw [hn]
    have hF1 := hF W1
    clear hn hr hF
    go_wp2_with fail
    refine hF1.out.mono ?_
    rintro e W2 ⟨rfl, hb2⟩
    have o2 : Hid (Below w.heap.size w W2) := o1.out.trans (hb2.mono o1.out.size)
    clear hF1 hb2
    go_wp2_with fail
    go_ret
    exact ⟨by rw [hc.out]; rfl, o2.out⟩
  | some i =>
    have hn : rowN f = (i.1 : Int) := by unfold rowN; rw [hr]
    have hc : Hid (canN f = (rowL i).1) := by unfold Hid canN; rw [hr]
    rw [hn]
    have i0 : (0 : Int) ≤ (i.1 : Int) := Int.natCast_nonneg _
    have i1 : (i.1 : Int) < 62 := by have := i.2; omega
    have i2 : ¬ (i.1 : Int) < 0 := by omega
    have hN := names_q W1
    clear hn hr hF
    go_wp2_with fail
    refine hN.mono ?_
    rintro e W2 ⟨cs, rfl, hcs, hcz, hco, hb2⟩
    have st := st_nams W2 cs hcz hco
    obtain ⟨W3, hW3⟩ : ∃ W3, W2.alloc (.cells cs 57) = W3 := ⟨_, rfl⟩
    rw [hW3] at st
    have hB3 : Hid (Below w.heap.size w W3) := by
      have h : Below W1.heap.size W1 W3 := by rw [← hW3]; exact hb2.alloc hb2.size _
      exact o1.out.trans (h.mono o1.out.size)
    have hn3 : Nams W3 W2.heap.size := by unfold Nams; rw [hcs.out, ← hW3]; exact heap_alloc_last W2 _
    obtain ⟨c0, c1, c2⟩ := hn3.cells i
    clear hN hb2 hco hW3
    go_wp2_with fail
    go_ret
    exact ⟨by rw [hc.out]; rfl, hB3.out⟩
theorem lr_step : ∀ n : Fin 62, lr n.val = nmN n.val :: (if upN n.val = 0 then [] else lr (upN n.val)) := by decide +kernel
theorem up_ltR : ∀ n : Fin 62, upN n.val < 62 := by decide +kernel
theorem lr_len4 : ∀ n : Fin 62, (lr n.val).length ≤ 4 := by decide +kernel
theorem knd_up : ∀ n : Fin 62, (KND.getD n.val []).getD 0 0 = if upN n.val = 0 then -1 else (upN n.val : Int) := by decide +kernel
theorem nm_S (i : Fin 62) : S (nmN i.val) = (rowL i).1 := by
  unfold nmN
  rw [dif_pos i.2, S_of]
/-- A row of texts, as an answer. -/
def LinQ (W : World) (l : List (List UInt8)) (e : Ending) : Prop := ∃ a c, e = .returned (.slice a l.length c) ∧ Row W a l
def restR (z : Int) : List (List UInt8) := if z < 0 then [] else lr z.toNat
set_option maxRecDepth 100000 in
set_option maxHeartbeats 2000000 in
theorem supersR_any (s : ByteArray) (w : World) (hs : s.size ≤ 140737488355328) (hK : KndTab w) :
    Calls Tryd.prog 9 #[.string s] w fun e w' => LinQ w' (lin (S (fold s.data.toList))) e ∧ Below w.heap.size w w' := by
  have hR := refRow_any s w hs
  have hF : ∀ W, Hid (Calls Tryd.prog 21 #[.string s] W fun e w' => e = .returned (.string (S (fold s.data.toList))) ∧ Below W.heap.size W w') := fun W => rFold_any s W hs
  have hK' : Hid (KndTab w) := hK
  generalize S (fold s.data.toList) = f at *
  clear hK
  go_enter Tryd.func9, Tryd.ntmps9
  go_wp2_with fail
  refine hR.mono ?_
  rintro e W1 ⟨rfl, hb1⟩
  have o1 : Hid (Below w.heap.size w W1) := hb1
  clear hR hb1
  cases hr : rowOf f with
  | none =>
    have hn : rowN f = -1 := by unfold rowN; rw [hr]
    have hc : Hid (lin f = [f.data.toList]) := (lin_none f hr).1
    rw [hn]
    have hF1 := hF W1
    clear hn hr hF
    go_wp2_with fail
    refine hF1.out.mono ?_
    rintro e W2 ⟨rfl, hb2⟩
    have o2 : Hid (Below w.heap.size w W2) := o1.out.trans (hb2.mono o1.out.size)
    clear hF1 hb2
    go_wp2_with fail
    go_ret
    refine ⟨⟨some ⟨W2.heap.size, 0, none⟩, 1, by rw [hc.out]; rfl, ?_⟩, o2.out.alloc o2.out.size _⟩
    rw [hc.out]
    intro i hi
    have hi0 : i = 0 := by simp at hi; omega
    subst hi0
    refine ⟨W2.heap.size, 0, rfl, ?_⟩
    rw [(row_cell (heap_alloc_last W2 (.cells #[.string f] 9)) (j := 0) (by simp)).1]
    simp [S_of]
  | some i =>
    have hn : rowN f = (i.1 : Int) := by unfold rowN; rw [hr]
    have hc : Hid (lin f = lr i.val) := (lin_row f i hr).1
    rw [hn]
    have i0 : (0 : Int) ≤ (i.1 : Int) := Int.natCast_nonneg _
    have i1 : (i.1 : Int) < 62 := by have := i.2; omega
    have i2 : ¬ (i.1 : Int) < 0 := by omega
    have hN := names_q W1
    clear hn hr hF
    go_wp2_with fail
    refine hN.mono ?_
    rintro e W2 ⟨cs, rfl, hcs, hcz, hco, hb2⟩
    have st := st_nams W2 cs hcz hco
    obtain ⟨W3, hW3⟩ : ∃ W3, W2.alloc (.cells cs 57) = W3 := ⟨_, rfl⟩
    rw [hW3] at st
    have hB3 : Hid (Below w.heap.size w W3) := by
      have h : Below W1.heap.size W1 W3 := by rw [← hW3]; exact hb2.alloc hb2.size _
      exact o1.out.trans (h.mono o1.out.size)
    have hn3 : Hid (Nams W3 W2.heap.size) := by unfold Hid Nams; rw [hcs.out, ← hW3]; exact heap_alloc_last W2 _
    clear hN hb2 hco hW3 i0 i1 i2
    go_wp2_with fail
    go_loopw [3, 4] (fun iv lv wr => ∃ (z : Int) (ms : List (List UInt8)), iv = .int .i64 z ∧ (∃ oa ol oc, lv = .slice oa ol oc ∧ OwnS wr W3.heap.size (.slice oa ol oc) ms) ∧ Below W3.heap.size W3 wr ∧ Hid (-1 ≤ z ∧ z < 62 ∧ lin f = ms ++ restR z ∧ ms.length ≤ 4)) (fun iv _ _ => (restR (intOf iv)).length)
    case atStart =>
      refine ⟨(i.1 : Int), [], rfl, ⟨none, 0, 0, rfl, ownS_nil _ _⟩, Below.refl _ _, ?_⟩
      have := i.2
      refine ⟨by omega, by omega, ?_, by simp⟩
      rw [hc.out, List.nil_append]
      unfold restR
      rw [if_neg (by omega)]
      rfl
    case round =>
      obtain ⟨z, ms, rfl, ⟨oa, ol, oc, rfl, hown0⟩, hB0, hz⟩ := hrel
      have hown : Hid (OwnS wr W3.heap.size (.slice oa ol oc) ms) := hown0
      have hB : Hid (Below W3.heap.size W3 wr) := hB0
      have hsz : W3.heap.size ≤ wr.heap.size := hB0.size
      clear hown0 hB0 st hcz
      by_cases hneg : z < 0
      · have h1 : ¬ (0 : Int) ≤ z := by omega
        have hfin : Hid (lin f = ms) := by
          unfold Hid
          rw [hz.out.2.2.1]
          unfold restR
          rw [if_pos hneg, List.append_nil]
        obtain ⟨va, vc, he, hrow⟩ := ownS_trow hown.out
        have hrow' : Hid (TRow wr va ms) := hrow
        have oB : Hid (Below w.heap.size w wr) := hB3.out.trans (hB.out.mono hB3.out.size)
        injection he with he1 he2 he3
        subst he1 he2 he3
        clear hrow hz
        go_wp2_with fail
        go_ret
        refine ⟨⟨oa, oc, by rw [hfin.out]; rfl, ?_⟩, oB.out⟩
        rw [hfin.out]
        exact TRow.row hrow'.out
      · obtain ⟨n, rfl⟩ : ∃ n : Nat, z = (n : Int) := ⟨z.toNat, by omega⟩
        have hn62 : n < 62 := by have := hz.out.2.1; omega
        obtain ⟨c0, c1, c2⟩ := (show Nams wr W2.heap.size from (hB.out.block _ (Array.getElem?_eq_some_iff.1 hn3.out).1).trans hn3.out).cells ⟨n, hn62⟩
        have hkn := (hK'.out.below (hB3.out.trans (hB.out.mono hB3.out.size))) n 0 hn62 (by omega)
        rw [knd_up ⟨n, hn62⟩] at hkn
        rw [← nm_S ⟨n, hn62⟩] at c0
        obtain ⟨nz, hnz⟩ : ∃ x : Int, (if upN n = 0 then -1 else (upN n : Int)) = x := ⟨_, rfl⟩
        have hkn' : wr.cell? ⟨0, n * 3 + 0, none⟩ = some (.int .i64 nz) := by rw [← hnz]; exact hkn
        have hst : Hid (lr n = nmN n :: restR nz ∧ -1 ≤ nz ∧ nz < 62) := by
          have h1 := lr_step ⟨n, hn62⟩
          have h2 := up_ltR ⟨n, hn62⟩
          simp only at h1 h2
          unfold Hid restR
          rw [h1, ← hnz]
          by_cases q : upN n = 0
          · rw [if_pos q, if_pos q]; exact ⟨rfl, by decide, by decide⟩
          · rw [if_neg q, if_neg q, if_neg (by omega)]
            exact ⟨rfl, by omega, by omega⟩
        have hre : Hid (restR (n : Int) = nmN n :: restR nz) := by
          unfold Hid
          rw [← hst.out.1]
          unfold restR
          rw [if_neg (by omega)]
          rfl
        have hlen : Hid (ms.length ≤ 3) := by
          have h1 := congrArg List.length hz.out.2.2.1
          rw [hc.out, hre.out, List.length_append, List.length_cons] at h1
          have h2 := lr_len4 i
          unfold Hid
          omega
        have n0 : (0 : Int) ≤ (n : Int) := Int.natCast_nonneg _
        have n1 : (n : Int) < 62 := by omega
        have hnx : Hid (lin f = (ms ++ [nmN n]) ++ restR nz) := by unfold Hid; rw [hz.out.2.2.1, hre.out]; simp
        have hl3 : Hid (ms.length ≤ 4194304) := by have := hlen.out; unfold Hid; omega
        obtain ⟨M, hM⟩ : ∃ M, S (nmN n) = M := ⟨_, rfl⟩
        have hM' : Hid (S (nmN n) = M) := hM
        simp only at c0
        rw [hM] at c0
        have hbk : Hid (wr.cell? ⟨0, n * 3 + 0, none⟩ = some (.int .i64 nz)) := hkn'
        have hgl : Hid (0 < W3.heap.size) := by
          have h1 : 0 < w.heap.size := World.block_lt_of_cell? w _ (hK'.out 0 0 (by omega) (by omega))
          have := hB3.out.size
          unfold Hid
          omega
        clear hkn hkn' hnz hM hz hneg c1 c2 hn62
        go_wp2_with (at_builtin; refine push_text _ rfl _ _ rfl W3.heap.size _ ms (nmN n) _ rfl rfl ?_ ?_ ?_ hl3.out ?_; (exact World.ownsRow.alloc hown.out _); (rw [hM'.out]; exact heap_alloc_new _ _); (simp; omega); intro g6 cap6 w6 hown6 hgr6 hlie6 hb6; have hk6 : w6.cell? ⟨0, n * 3, none⟩ = some (.int .i64 nz) := (by rw [hb6.cell (show 0 < W3.heap.size from hgl.out), World.cell?_alloc_past _ _ _ (Nat.lt_of_lt_of_le hgl.out hsz)]; exact hbk.out))
        refine ⟨⟨nz, ms ++ [nmN n], rfl, ⟨_, _, _, rfl, hown6⟩, (hB.out.alloc hsz _).trans hb6, hst.out.2.1, hst.out.2.2, hnx.out, by rw [List.length_append]; have := hlen.out; simp; omega⟩, ?_⟩
        simp only [intOf]
        rw [hre.out, List.length_cons]
        omega
end Go.Proofs.YtcmdmkajpbhcaaaDoor

namespace Go.Proofs.YtcmdmkajpbhcaaaDoor
open Go.RowKit
open TextMath (fold lo)
set_option linter.unusedVariables false

theorem sp_join : ∀ l : List UInt8, l = (sp 59 l).headD [] ++ semis (sp 59 l).tail
  | [] => rfl
  | b :: l => by
    by_cases hb : b = 59
    · subst hb
      rw [sp_at]
      show _ = [] ++ semis (sp 59 l)
      conv => rhs; rw [sp_cons]
      rw [List.nil_append, semis_cons]
      congr 1
      exact sp_join l
    · rw [sp_on 59 b l hb]
      show b :: l = (b :: (sp 59 l).headD []) ++ semis (sp 59 l).tail
      rw [List.cons_append]
      congr 1
      exact sp_join l
theorem no59_of (z : List UInt8) (h : 59 ∉ z) : No59 z := fun b hb e => h (by rw [← e]; exact hb)
theorem fold59 (z : List UInt8) (h : 59 ∉ z) : No59 (fold z) := fun b hb e => by
  obtain ⟨c, hc, rfl⟩ := List.mem_map.1 hb
  exact h (by rw [← (lo_eq 59 c (Or.inl rfl)).1 e]; exact hc)
theorem typ_dfa' (z : List UInt8) (h : typE z = (z.length, true)) : 59 ∉ z := by
  intro hm
  have hd := desc_semis z [] h (by simp)
  have h1 : desc (S z) = ([], (S z).size, true) := by
    have h2 := hd.1
    rw [show semis [] = [] from rfl, List.append_nil] at h2
    exact h2
  have hj := sp_join z
  have hz : (sp 59 z).tail ≠ [] := by
    intro q
    rw [q, show semis [] = [] from rfl, List.append_nil] at hj
    have := (sp_mem 59 z _ (sp_head 59 z)).1
    rw [← hj] at this
    exact this hm
  have hty : typE z = typE ((sp 59 z).headD []) := by
    conv => lhs; rw [hj]
    exact typE_semis _ _
  have hle := typE_le ((sp 59 z).headD [])
  rw [← hty, h] at hle
  have hlen := congrArg List.length hj
  rw [List.length_append] at hlen
  have hpos : 0 < (semis (sp 59 z).tail).length := by
    have := semis_len (sp 59 z).tail
    have := List.length_pos_iff.2 hz
    omega
  simp only at hle
  omega
theorem typK (f : ByteArray) (h : (desc f).2.2 = true) : No59 (typD f).data.toList := by
  obtain ⟨i1, i2, i3, i4⟩ := desc_inv f h
  intro b hb e
  subst e
  have h1 := typ_dfa' (typD f).data.toList i2
  exact h1 hb
theorem desc_parts (l : List UInt8) (h : (desc (S (fold l))).2.2 = true) :
    (typD (S (fold l))).data.toList = fold ((sp 59 l).headD []) ∧ (desc (S (fold l))).1 = (sp 59 l).tail.map fold := by
  obtain ⟨i1, i2, i3, i4⟩ := desc_inv _ h
  have hj : fold l = fold ((sp 59 l).headD []) ++ semis ((sp 59 l).tail.map fold) := by
    conv => lhs; rw [sp_join l]
    rw [fold_app, fold_semis]
  rw [S_l] at i1
  have n1 : No59 (fold ((sp 59 l).headD [])) := fold59 _ (sp_mem 59 l _ (sp_head 59 l)).1
  have n2 : ∀ z ∈ (sp 59 l).tail.map fold, No59 z := fun z hz => by
    obtain ⟨y, hy, rfl⟩ := List.mem_map.1 hz
    exact fold59 y (sp_mem 59 l y (by rw [sp_cons]; exact List.mem_cons_of_mem _ hy)).1
  have n3 : ∀ z ∈ (desc (S (fold l))).1, No59 z := desc_no59 _
  obtain ⟨e1, e2⟩ := split59 _ _ n1 (typK _ h) _ _ n2 n3 (hj.symm.trans i1)
  exact ⟨e1.symm, (semis_inj _ _ n2 n3 e2).symm⟩
/-- What the reference's Parse answers. -/
def RParseIs (W : World) (s f : ByteArray) (e : Ending) : Prop :=
  ((desc f).2.2 = true ∧ ∃ a r c, e = .returned (.tuple #[.agg #[.string (canN (typD f)), .slice a r.length c], .int .i64 0, .int .i64 (s.size : Int)]) ∧ Row W a r ∧ Up r ∧ (∀ z, z ∈ r ↔ z ∈ (desc f).1) ∧ r.length ≤ 4194304) ∨
  ((desc f).2.2 = false ∧ e = .returned (.tuple #[.agg #[.string ⟨#[]⟩, .slice none 0 0], .int .i64 40, .int .i64 ((desc f).2.1 : Int)]))
end Go.Proofs.YtcmdmkajpbhcaaaDoor

namespace Go.Proofs.YtcmdmkajpbhcaaaDoor
open Go.RowKit
open TextMath (fold lo)
set_option linter.unusedVariables false

def DescB (W : World) (g : Nat) (t v : Value) : Prop := W.heap[g]? = some (.cells #[t, v] 25 (0, 0))
theorem DescB.cells {W : World} {g : Nat} {t v : Value} (h : DescB W g t v) : (W.cell? ⟨g, 0, none⟩ = some t ∧ W.frozen? ⟨g, 0, none⟩ = false) ∧ (W.cell? ⟨g, 1, none⟩ = some v ∧ W.frozen? ⟨g, 1, none⟩ = false) := ⟨row_cell h (j := 0) (by simp), row_cell h (j := 1) (by simp)⟩
theorem DescB.lt {W : World} {g : Nat} {t v : Value} (h : DescB W g t v) : g < W.heap.size := (Array.getElem?_eq_some_iff.1 h).1
theorem DescB.of_block {W W' : World} {g : Nat} {t v : Value} (h : DescB W g t v) (e : W'.heap[g]? = W.heap[g]?) : DescB W' g t v := e.trans h
theorem Row.of_blocks {w w' : World} {a : Option Addr} {l : List (List UInt8)} (h : Row w a l) (hb : ∀ b off, a = some ⟨b, off, none⟩ → w'.heap[b]? = w.heap[b]?) : Row w' a l := fun i hi => by
  obtain ⟨b, off, e, h1⟩ := h i hi
  refine ⟨b, off, e, ?_⟩
  rw [World.cell?_of_block (w := w) (hb b off e)]
  exact h1
set_option maxRecDepth 100000 in
set_option maxHeartbeats 4000000 in
theorem parseR_any (s f : ByteArray) (hf : S (fold s.data.toList) = f) (w : World) (hs : s.size ≤ 4194300) :
    Calls Tryd.prog 18 #[.string s] w fun e w' => RParseIs w' s f e ∧ Below w.heap.size w w' := by
  obtain ⟨Wa, hWa⟩ : ∃ Wa, w.alloc (.cells #[.string ⟨#[]⟩, .slice none 0 0] 25) = Wa := ⟨_, rfl⟩
  have hBa : Below w.heap.size w Wa := by rw [← hWa]; exact (Below.refl _ _).alloc (Nat.le_refl _) _
  have pa : DescB Wa w.heap.size (.string ⟨#[]⟩) (.slice none 0 0) := by rw [← hWa]; exact heap_alloc_last w _
  have na : Hid (Wa.heap.size = w.heap.size + 1) := by unfold Hid; rw [← hWa, World.size_alloc]
  have hID : ∀ W, Hid (Calls Tryd.prog 32 #[.string s] W fun e w' => e = .returned (.bool (desc f).2.2) ∧ Below W.heap.size W w') := fun W => by
    have h := isDesc_any s W (by omega)
    have hd := (desc_dfa f).2
    rw [← hf, S_l, ← dsc_dfaB] at hd
    rw [← hf, hd]
    exact h
  have hPl : ∀ W, Hid (Calls Tryd.prog 33 #[.string s, .bool false] W fun e w' => e = .returned (.int .i64 ((desc f).2.1 : Int)) ∧ Below W.heap.size W w') := fun W => by
    have h := placeR_any s W hs
    have hd := (desc_dfa f).1
    rw [← hf, S_l] at hd
    rw [← hf, hd]
    exact h
  have hP : ∀ W, Hid (Calls Tryd.prog 34 #[.string s, .int .u8 59] W fun e w' => (∃ v, e = .returned v ∧ OwnS w' W.heap.size v (sp 59 s.data.toList)) ∧ Below W.heap.size W w') := fun W => parts_any s 59 W (by omega)
  have hH : Hid (DescB Wa w.heap.size (.string ⟨#[]⟩) (.slice none 0 0) ∧ Below w.heap.size w Wa) := ⟨pa, hBa⟩
  have hdp : Hid ((desc f).2.2 = true → (typD f).data.toList = fold ((sp 59 s.data.toList).headD []) ∧ (desc f).1 = (sp 59 s.data.toList).tail.map fold) := by
    unfold Hid
    rw [← hf]
    exact desc_parts s.data.toList
  have hsz : Hid ((sp 59 s.data.toList).length ≤ 4194301 ∧ (∀ z ∈ sp 59 s.data.toList, z.length ≤ 4194300) ∧ 0 < (sp 59 s.data.toList).length) := by
    refine ⟨?_, fun z hz => ?_, List.length_pos_iff.2 (sp_ne _ _)⟩
    · have := sp_count 59 s.data.toList; rw [size_l] at this; omega
    · have := sp_len 59 _ z hz; rw [size_l] at this; omega
  generalize sp 59 s.data.toList = Z at *
  clear hBa pa hf hs
  go_enter Tryd.func18, Tryd.ntmps18
  go_wp2_with fail
  refine (hID Wa).out.mono ?_
  rintro e W1 ⟨rfl, hb1⟩
  have p1 : Hid (DescB W1 w.heap.size (.string ⟨#[]⟩) (.slice none 0 0)) := hH.out.1.of_block (hb1.block _ hH.out.1.lt)
  have o1 : Hid (Below w.heap.size w W1) := hH.out.2.trans (hb1.mono hH.out.2.size)
  have n1 : Hid (w.heap.size + 1 ≤ W1.heap.size) := by have := na.out; have := hb1.size; unfold Hid; omega
  clear hID hb1 hH hWa
  obtain ⟨ok, hok⟩ : ∃ ok, (desc f).2.2 = ok := ⟨_, rfl⟩
  have hok' : Hid ((desc f).2.2 = ok) := hok
  rw [hok]
  clear hok
  cases ok with
  | false =>
    have hPl1 := hPl W1
    clear hPl hP hdp
    go_wp2_with fail
    refine hPl1.out.mono ?_
    rintro e W2 ⟨rfl, hb2⟩
    have p2 : DescB W2 w.heap.size (.string ⟨#[]⟩) (.slice none 0 0) := p1.out.of_block (hb2.block _ p1.out.lt)
    have o2 : Hid (Below w.heap.size w W2) := o1.out.trans (hb2.mono o1.out.size)
    have p2' : Hid (DescB W2 w.heap.size (.string ⟨#[]⟩) (.slice none 0 0)) := p2
    obtain ⟨⟨r0, f0⟩, ⟨r1, f1⟩⟩ := p2.cells
    clear hPl1 hb2 p2
    go_wp2_with fail
    obtain ⟨Wf, hWf, k1, k2, k3⟩ := duo p2'.out (.string ⟨#[]⟩) (.slice none 0 0)
    rw [hWf]
    have hl := ld_desc Wf w.heap.size _ k1 rfl
    refine bodyPost_ret (results_cell_tmp2 rfl _ _ _ _ _ rfl hl) rfl ⟨Or.inr ⟨hok'.out, rfl⟩, k3 _ _ (Nat.le_refl _) o2.out⟩
  | true =>
    have hP1 := hP W1
    clear hPl hP
    go_wp2_with fail
    refine hP1.out.mono ?_
    rintro e W2 ⟨⟨v, rfl, hO⟩, hb2⟩
    obtain ⟨va, vc, rfl, hrow⟩ := ownS_trow hO
    have hrow2 : Hid (Row W2 va Z) := TRow.row hrow
    have p2 : Hid (DescB W2 w.heap.size (.string ⟨#[]⟩) (.slice none 0 0)) := p1.out.of_block (hb2.block _ p1.out.lt)
    have o2 : Hid (Below w.heap.size w W2) := o1.out.trans (hb2.mono o1.out.size)
    have n2 : Hid (w.heap.size + 1 ≤ W2.heap.size) := by have := n1.out; have := hb2.size; unfold Hid; omega
    obtain ⟨W3, hW3⟩ : ∃ W3, W2.alloc (.cells #[.string ⟨#[]⟩, .slice none 0 0] 25) = W3 := ⟨_, rfl⟩
    have hB3 : Below W2.heap.size W2 W3 := by rw [← hW3]; exact (Below.refl _ _).alloc (Nat.le_refl _) _
    have p3 : Hid (DescB W3 W2.heap.size (.string ⟨#[]⟩) (.slice none 0 0)) := by unfold Hid DescB; rw [← hW3]; exact heap_alloc_last W2 _
    have q3 : Hid (DescB W3 w.heap.size (.string ⟨#[]⟩) (.slice none 0 0)) := p2.out.of_block (hB3.block _ p2.out.lt)
    have o3 : Hid (Below w.heap.size w W3) := o2.out.trans (hB3.mono o2.out.size)
    have n3 : Hid (W3.heap.size = W2.heap.size + 1) := by unfold Hid; rw [← hW3, World.size_alloc]
    have hrow3 : Hid (Row W3 va Z) := hrow2.out.below hB3
    obtain ⟨b, off, hva, hc2⟩ := hrow2.out 0 hsz.out.2.2
    have hbl : Hid (b < W2.heap.size) := World.block_lt_of_cell? W2 _ hc2
    have hc : W3.cell? ⟨b, off, none⟩ = some (.string (S (Z[0]'hsz.out.2.2))) := (hB3.cell (show b < W2.heap.size from hbl.out) (p := ⟨b, off + 0, none⟩)).trans hc2
    subst hva
    obtain ⟨T, hT⟩ : ∃ T, canN (S (fold (S (Z[0]'hsz.out.2.2)).data.toList)) = T := ⟨_, rfl⟩
    have hCa := canonR_any (S (Z[0]'hsz.out.2.2)) W3 (by rw [S_sizeR]; have := hsz.out.2.1 _ (List.getElem_mem hsz.out.2.2); omega)
    rw [hT] at hCa
    have hTt : Hid (T = canN (typD f)) := by
      unfold Hid
      rw [← hT, S_l, ← headD_get, ← (hdp.out hok'.out).1, S_of]
    have z0 : (0 : Int) < (Z.length : Int) := by have := hsz.out.2.2; omega
    have z1 : Z.length ≤ 4194301 := hsz.out.1
    generalize S (Z[0]'hsz.out.2.2) = X0 at *
    clear hO hrow hP1 hb2 hT hB3 p2 o2 hrow2 p1 o1 hc2
    go_wp2_with fail
    refine hCa.mono ?_
    rintro e W4 ⟨rfl, hb4⟩
    have p4 : DescB W4 W2.heap.size (.string ⟨#[]⟩) (.slice none 0 0) := p3.out.of_block (hb4.block _ p3.out.lt)
    obtain ⟨⟨r0, f0⟩, ⟨r1, f1⟩⟩ := p4.cells
    obtain ⟨W5, hW5⟩ : ∃ W5, W4.setCell ⟨W2.heap.size, 0, none⟩ (.string T) = W5 := ⟨_, rfl⟩
    have p5 : Hid (DescB W5 W2.heap.size (.string T) (.slice none 0 0)) := by unfold Hid DescB; rw [← hW5]; exact Go.heap_setCell_same _ _ _ _ _ _ p4
    have q5 : Hid (DescB W5 w.heap.size (.string ⟨#[]⟩) (.slice none 0 0)) := by
      have h := q3.out.of_block (hb4.block _ q3.out.lt)
      refine h.of_block ?_
      rw [← hW5, Below.heap_setCell _ _ _ _ (by show w.heap.size ≠ W2.heap.size; have := n2.out; omega)]
    have o5 : Hid (Below w.heap.size w W5) := by
      unfold Hid
      rw [← hW5]
      exact Below.setCell (o3.out.trans (hb4.mono o3.out.size)) (by show w.heap.size ≤ W2.heap.size; have := n2.out; omega) _
    have hrow5 : Hid (Row W5 (some ⟨b, off, none⟩) Z) := by
      refine Row.of_blocks (hrow3.out.below hb4) (fun b' off' e => ?_)
      injection e with e
      injection e with e _
      subst e
      rw [← hW5, Below.heap_setCell _ _ _ _ ?_]
      show b ≠ W2.heap.size
      have := hbl.out
      omega
    have n5 : Hid (W2.heap.size < W5.heap.size ∧ w.heap.size < W2.heap.size) := ⟨p5.out.lt, by have := n2.out; omega⟩
    clear hCa hb4 p4 p3 q3 o3 hrow3 hc hW3 n3
    go_wp2_with fail
    clear r0 f0 r1 f1 hW5
    go_loopw [8, 9] (fun ov iv wr => ∃ (k : Nat) (ms : List (List UInt8)), k + 1 ≤ Z.length ∧ iv = .int .i64 ((k : Int) + 1) ∧ (∃ oa ol oc, ov = .slice oa ol oc ∧ OwnS wr W5.heap.size (.slice oa ol oc) ms) ∧ Below W5.heap.size W5 wr ∧ Hid (ms = (Z.tail.take k).map fold)) (fun _ iv _ => Z.length + 1 - (intOf iv).toNat)
    case atStart => exact ⟨0, [], hsz.out.2.2, rfl, ⟨none, 0, 0, rfl, ownS_nil _ _⟩, Below.refl _ _, rfl⟩
    case round =>
      obtain ⟨k, ms, hk, rfl, ⟨oa, ol, oc, rfl, hown0⟩, hB0, hms⟩ := hrel
      have hown : Hid (OwnS wr W5.heap.size (.slice oa ol oc) ms) := hown0
      have hB : Hid (Below W5.heap.size W5 wr) := hB0
      have hszw : W5.heap.size ≤ wr.heap.size := hB0.size
      have hml : Hid (ms.length ≤ k) := by unfold Hid; rw [hms.out, List.length_map, List.length_take]; omega
      clear hown0 hB0
      by_cases hlt : k + 1 < Z.length
      · obtain ⟨b', off', hva, hc⟩ := (hrow5.out.below hB.out) (k + 1) hlt
        injection hva with hva
        injection hva with e1 e2
        subst e1 e2
        have htl : k < Z.tail.length := by rw [List.length_tail]; omega
        obtain ⟨M, hM⟩ : ∃ M, fold Z[k + 1] = M := ⟨_, rfl⟩
        have hF := rFold_any (S Z[k + 1]) wr (by rw [S_sizeR]; have := hsz.out.2.1 _ (List.getElem_mem hlt); omega)
        rw [S_l, hM] at hF
        have hnx : Hid (ms ++ [M] = (Z.tail.take (k + 1)).map fold) := by
          unfold Hid
          rw [List.take_succ_eq_append_getElem htl, List.map_append, hms.out, List.getElem_tail, ← hM]
          rfl
        generalize S Z[k + 1] = X at *
        have hl3 : Hid (ms.length ≤ 4194304) := by have := hml.out; unfold Hid; omega
        have k0 : (0 : Int) ≤ (k : Int) + 1 := by omega
        have k1 : (k : Int) + 1 < (Z.length : Int) := by omega
        have hlt' : Hid (k + 1 < Z.length) := hlt
        clear hM htl
        go_wp2_with fail
        refine hF.mono ?_
        rintro e w1 ⟨rfl, hb1⟩
        have hown1 : Hid (OwnS w1 W5.heap.size (.slice oa ol oc) ms) := ownS_of hown.out (fun g hg => hb1.block g (ownS_lt hown.out hg).2)
        have hB1 : Hid (Below W5.heap.size W5 w1) := hB.out.trans (hb1.mono hszw)
        have hsz1 : W5.heap.size ≤ w1.heap.size := Nat.le_trans hszw hb1.size
        clear hF hb1
        go_wp2_with (at_builtin; refine push_text _ rfl _ _ rfl W5.heap.size _ ms M _ rfl rfl ?_ ?_ ?_ hl3.out ?_; (exact World.ownsRow.alloc hown1.out _); (exact heap_alloc_new _ _); (simp; omega); intro g6 cap6 w6 hown6 hgr6 hlie6 hb6)
        refine ⟨⟨k + 1, ms ++ [M], hlt'.out, by simp, ⟨_, _, _, rfl, hown6⟩, (hB1.out.alloc hsz1 _).trans hb6, hnx⟩, ?_⟩
        have := hlt'.out
        simp [intOf]
        omega
      · have hke : k + 1 = Z.length := by omega
        have hms' : Hid (ms = (desc f).1) := by
          unfold Hid
          rw [hms.out, (hdp.out hok'.out).2, List.take_of_length_le (by rw [List.length_tail]; omega)]
        have k1 : ¬ (k : Int) + 1 < (Z.length : Int) := by omega
        obtain ⟨va, vc, he, hrow⟩ := ownS_trow hown.out
        injection he with he1 he2 he3
        subst he1 he2 he3
        have hSo := sorted_any ms.length ms oa oc wr (Nat.le_refl _) (TRow.row hrow) (ownS_len hown.out) (by have := hml.out; omega)
        have hloc : Hid (∀ b off, oa = some ⟨b, off, none⟩ → W5.heap.size ≤ b) := by
          intro b off q
          rcases ownS_form hown.out with ⟨q1, _⟩ | ⟨g, cap, q1⟩
          · injection q1 with q1
            rw [q1] at q
            cases q
          · injection q1 with q2 _ _
            have h3 := (ownS_lt hown.out (g := g) (by rw [q2]; rfl)).1
            rw [q2] at q
            injection q with q
            injection q with q _
            omega
        have hmc : Hid (ms.length ≤ 4194304) := by have := hml.out; unfold Hid; omega
        clear hrow hms hke
        go_wp2_with fail
        refine hSo.mono ?_
        rintro e W6 ⟨⟨ra, r, rc, rfl, hrr, hup, hmem, hrl, hrc, hrloc⟩, hb6⟩
        have hrl' : Hid (∀ b off, ra = some ⟨b, off, none⟩ → W5.heap.size ≤ b) := by
          rcases hrloc with q | q
          · rw [q]; exact hloc.out
          · intro b off e
            have := q b off e
            omega
        have hb56 : Below W5.heap.size W5 W6 := hB.out.trans (hb6.mono hszw)
        have p6 : DescB W6 W2.heap.size (.string T) (.slice none 0 0) := p5.out.of_block (hb56.block _ p5.out.lt)
        have q6 : DescB W6 w.heap.size (.string ⟨#[]⟩) (.slice none 0 0) := q5.out.of_block (hb56.block _ q5.out.lt)
        obtain ⟨W7, hW7⟩ : ∃ W7, W6.setCell ⟨W2.heap.size, 1, none⟩ (.slice ra r.length rc) = W7 := ⟨_, rfl⟩
        have p7 : DescB W7 W2.heap.size (.string T) (.slice ra r.length rc) := by unfold DescB; rw [← hW7]; exact Go.heap_setCell_same _ _ _ _ _ _ p6
        have q7 : Hid (DescB W7 w.heap.size (.string ⟨#[]⟩) (.slice none 0 0)) := by
          refine q6.of_block ?_
          rw [← hW7, Below.heap_setCell _ _ _ _ (by show w.heap.size ≠ W2.heap.size; have := n5.out; omega)]
        have o7 : Hid (Below w.heap.size w W7) := by
          unfold Hid
          rw [← hW7]
          exact Below.setCell (o5.out.trans (hb56.mono o5.out.size)) (by show w.heap.size ≤ W2.heap.size; have := n5.out; omega) _
        have hrow7 : Hid (Row W7 ra r) := by
          refine Row.of_blocks hrr (fun b' off' e => ?_)
          have := hrl'.out b' off' e
          rw [← hW7, Below.heap_setCell _ _ _ _ (by show b' ≠ W2.heap.size; have := n5.out; omega)]
        have hup' : Hid (Up r ∧ (∀ z, z ∈ r ↔ z ∈ (desc f).1) ∧ r.length ≤ 4194304) := ⟨hup, by rw [← hms'.out]; exact hmem, by have := hmc.out; omega⟩
        obtain ⟨⟨r0, f0⟩, ⟨r1, f1⟩⟩ := p6.cells
        obtain ⟨⟨t0, y0⟩, ⟨t1, y1⟩⟩ := p7.cells
        obtain ⟨⟨u0, x0⟩, ⟨u1, x1⟩⟩ := q7.out.cells
        clear hSo hrr hup hmem hrl hrc hrloc hb6 hb56 p6 q6 p7 hB hown p5 q5 o5 hrow5
        go_wp2_with fail
        obtain ⟨Wf, hWf, g1, g2, g3⟩ := duo q7.out (.string T) (.slice ra r.length rc)
        rw [hWf]
        have hl := ld_desc Wf w.heap.size _ g1 rfl
        refine bodyPost_ret (results_cell_tmp2 rfl _ _ _ _ _ rfl hl) rfl ⟨Or.inl ⟨hok'.out, ra, r, rc, by rw [← hTt.out]; rfl, ?_, hup'.out⟩, g3 _ _ (Nat.le_refl _) o7.out⟩
        refine Row.of_blocks hrow7.out (fun b' off' e => g2 b' ?_)
        have := hrl'.out b' off' e
        have := n5.out
        omega
end Go.Proofs.YtcmdmkajpbhcaaaDoor
