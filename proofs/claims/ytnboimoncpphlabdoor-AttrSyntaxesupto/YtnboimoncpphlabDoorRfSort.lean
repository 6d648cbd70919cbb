import Derived.Test.YtnboimoncpphlabDoorRfSrtM
import Derived.BigQuiet
namespace Go.Proofs.YtnboimoncpphlabDoor
open Go.RowKit
set_option linter.unusedVariables false

theorem Row.take {w : World} {a : Option Addr} {l : List (List UInt8)} (h : Row w a l) (k : Nat) : Row w a (l.take k) := fun i hi => by
  rw [List.length_take] at hi
  obtain ⟨b, off, e, h1⟩ := h i (by omega)
  refine ⟨b, off, e, ?_⟩
  rw [h1, List.getElem_take]
theorem Row.drop {w : World} {b off : Nat} {l : List (List UInt8)} (h : Row w (some ⟨b, off, none⟩) l) (k : Nat) : Row w (some ⟨b, off + k, none⟩) (l.drop k) := fun i hi => by
  rw [List.length_drop] at hi
  obtain ⟨b', off', e, h1⟩ := h (k + i) (by omega)
  injection e with e
  injection e with e1 e2
  subst e1 e2
  refine ⟨b, off + k, rfl, ?_⟩
  rw [Nat.add_assoc, h1, List.getElem_drop]
theorem drewN_belowS (W : World) (B q : Nat) : Below B W (W.drewN q) := ⟨rfl, rfl, rfl, Nat.le_refl _, fun _ _ => rfl⟩
theorem ownS_len {w : World} {B n cap : Nat} {a : Option Addr} {l : List (List UInt8)} (h : OwnS w B (.slice a n cap) l) : n ≤ cap := by
  rcases h with ⟨_, ⟨h1, _⟩ | ⟨g', cap', cur, h1, _, _, h5, _⟩⟩
  · injection h1 with _ h2 _
    rw [h2]
    exact Nat.zero_le _
  · injection h1 with h1 h2 h3
    subst h2 h3
    exact h5
/-- What sorted answers. -/
def SrtQ (l : List (List UInt8)) (a0 : Option Addr) (B : Nat) (W : World) (e : Ending) (w' : World) : Prop :=
  (∃ a r c, e = .returned (.slice a r.length c) ∧ Row w' a r ∧ Up r ∧ (∀ z, z ∈ r ↔ z ∈ l) ∧ r.length ≤ l.length ∧ r.length ≤ c ∧ (a = a0 ∨ ∀ b off, a = some ⟨b, off, none⟩ → B ≤ b)) ∧ Below B W w'
set_option maxRecDepth 100000 in
set_option maxHeartbeats 1000000 in
theorem sorted_short (l : List (List UInt8)) (a : Option Addr) (c : Nat) (w : World) (hr : Row w a l) (hc : l.length ≤ c) (h2 : l.length < 2) :
    Calls Tryd.prog 57 #[.slice a l.length c] w fun e w' => SrtQ l a w.heap.size w e w' := by
  have h1 : (l.length : Int) < 2 := by omega
  have hr' : Hid (Row w a l) := hr
  have hc' : Hid (l.length ≤ c) := hc
  have hu : Hid (Up l) := by
    unfold Hid Up
    match l, h2 with
    | [], _ => exact List.Pairwise.nil
    | [x], _ => exact List.pairwise_singleton _ _
    | _ :: _ :: _, h => exfalso; simp only [List.length_cons] at h; omega
  clear hr hc h2
  go_enter Tryd.func57, Tryd.ntmps57
  go_wp2_with fail
  go_ret
  exact ⟨⟨a, l, c, rfl, hr'.out, hu.out, fun z => Iff.rfl, Nat.le_refl _, hc'.out, Or.inl rfl⟩, Below.refl _ _⟩
set_option maxRecDepth 100000 in
set_option maxHeartbeats 4000000 in
theorem sorted_step (n : Nat) (ih : ∀ (l : List (List UInt8)) (a : Option Addr) (c : Nat) (w : World), l.length ≤ n → Row w a l → l.length ≤ c → l.length ≤ 4194304 → Calls Tryd.prog 57 #[.slice a l.length c] w fun e w' => SrtQ l a w.heap.size w e w')
    (l : List (List UInt8)) (a : Option Addr) (c : Nat) (w : World) (hn : l.length ≤ n + 1) (hr : Row w a l) (hc : l.length ≤ c) (hl : l.length ≤ 4194304) (h2 : ¬ l.length < 2) :
    Calls Tryd.prog 57 #[.slice a l.length c] w fun e w' => SrtQ l a w.heap.size w e w' := by
  have h1 : ¬ (l.length : Int) < 2 := by omega
  obtain ⟨b, off, rfl, hx0⟩ := hr 0 (by omega)
  obtain ⟨k, hk⟩ : ∃ k, l.length / 2 = k := ⟨_, rfl⟩
  have hk1 : 1 ≤ k ∧ k < l.length := by omega
  have hdiv : (l.length : Int).tdiv 2 = (k : Int) := by rw [← hk]; rfl
  have k0 : (0 : Int) ≤ (k : Int) := Int.natCast_nonneg _
  have k1 : (k : Int) ≤ (c : Int) := by omega
  have k2 : (k : Int) ≤ (l.length : Int) := by omega
  have k3 : k < c := by omega
  have k4 : ¬ k = c := by omega
  have k5 : ¬ c = k := by omega
  have k6 : ¬ c - k = 0 := by omega
  have hT1 : Hid (Calls Tryd.prog 57 #[.slice (some ⟨b, off, none⟩) k c] w fun e w' => SrtQ (l.take k) (some ⟨b, off, none⟩) w.heap.size w e w') := by
    have h := ih (l.take k) (some ⟨b, off, none⟩) c w (by rw [List.length_take]; omega) (hr.take k) (by rw [List.length_take]; omega) (by rw [List.length_take]; omega)
    rw [List.length_take, Nat.min_eq_left (by omega)] at h
    exact h
  have hT2 : ∀ W, Below w.heap.size w W → Hid (Calls Tryd.prog 57 #[.slice (some ⟨b, off + k, none⟩) (l.length - k) (c - k)] W fun e w' => SrtQ (l.drop k) (some ⟨b, off + k, none⟩) W.heap.size W e w') := fun W hW => by
    have h := ih (l.drop k) (some ⟨b, off + k, none⟩) (c - k) W (by rw [List.length_drop]; omega) ((hr.below hW).drop k) (by rw [List.length_drop]; omega) (by rw [List.length_drop]; omega)
    rw [List.length_drop] at h
    exact h
  have hlk : Hid (k < l.length ∧ l.length ≤ 4194304) := ⟨hk1.2, hl⟩
  clear hx0
  clear hr hn h2 hk hk1 ih
  go_enter Tryd.func57, Tryd.ntmps57
  go_wp2_with fail
  refine hT1.out.mono ?_
  rintro e W1 ⟨⟨a1, r1, c1, rfl, hr1, hu1, hm1, hl1, hc1, hx1⟩, hb1⟩
  have hT3 := hT2 W1 hb1
  have hr1' : Hid (Row W1 a1 r1) := hr1
  have hf1 : Hid (Up r1 ∧ (∀ z, z ∈ r1 ↔ z ∈ l.take k) ∧ r1.length ≤ k) := ⟨hu1, hm1, by rw [List.length_take] at hl1; omega⟩
  have o1 : Hid (Below w.heap.size w W1) := hb1
  clear hT1 hT2 hr1 hu1 hm1 hl1 hb1 hc1 hx1
  go_wp2_with fail
  refine hT3.out.mono ?_
  rintro e W2 ⟨⟨a2, r2, c2, rfl, hr2, hu2, hm2, hl2, hc2, hx2⟩, hb2⟩
  have hR1 : Hid (Row W2 a1 r1) := hr1'.out.below hb2
  have hR2 : Hid (Row W2 a2 r2) := hr2
  have hf2 : Hid (Up r2 ∧ (∀ z, z ∈ r2 ↔ z ∈ l.drop k) ∧ r2.length ≤ l.length - k) := ⟨hu2, hm2, by rw [List.length_drop] at hl2; exact hl2⟩
  have o2 : Hid (Below w.heap.size w W2) := o1.out.trans (hb2.mono o1.out.size)
  have e1 : r1.length ≤ 4194304 := by have := hf1.out.2.2; have := hlk.out; omega
  have e2 : r2.length ≤ 4194304 := by have := hf2.out.2.2; have := hlk.out; omega
  clear hT3 hr2 hu2 hm2 hl2 hb2 hc2 hx2 o1 hr1' k0 k1 k2 k3 k4 k5 k6 hdiv h1
  go_wp2_with fail
  go_loopw [5, 6, 7] (fun ov iv jv wr => ∃ (i j : Nat) (o : List (List UInt8)), i ≤ r1.length ∧ j ≤ r2.length ∧ iv = .int .i64 (i : Int) ∧ jv = .int .i64 (j : Int) ∧ (∃ oa ol oc, ov = .slice oa ol oc ∧ OwnS wr W2.heap.size (.slice oa ol oc) o) ∧ Below W2.heap.size W2 wr ∧ Hid (Mg r1 r2 i j o)) (fun _ iv jv _ => (r1.length + r2.length) - ((intOf iv).toNat + (intOf jv).toNat))
  case atStart => exact ⟨0, 0, [], Nat.zero_le _, Nat.zero_le _, rfl, rfl, ⟨none, 0, 0, rfl, ownS_nil _ _⟩, Below.refl _ _, mg_start _ _⟩
  case round =>
    obtain ⟨i, j, o, hi, hj, rfl, rfl, ⟨oa, ol, oc, rfl, hown0⟩, hB0, hM⟩ := hrel
    have hown : Hid (OwnS wr W2.heap.size (.slice oa ol oc) o) := hown0
    have hB : Hid (Below W2.heap.size W2 wr) := hB0
    have hsz : W2.heap.size ≤ wr.heap.size := hB0.size
    have hol : Hid (o.length ≤ 4194304) := by have := hM.out.2.2.2.2.2; have := hf1.out.2.2; have := hf2.out.2.2; have := hlk.out; unfold Hid; omega
    clear hown0 hB0
    have i0 : (0 : Int) ≤ (i : Int) := Int.natCast_nonneg _
    have j0 : (0 : Int) ≤ (j : Int) := Int.natCast_nonneg _
    by_cases hil : i < r1.length
    · have i1 : (i : Int) < (r1.length : Int) := Int.ofNat_lt.2 hil
      have i2 : ((i : Int) == (r1.length : Int)) = false := by rw [beq_eq_false_iff_ne]; omega
      obtain ⟨b1, f1, e3, x1⟩ := (hR1.out.below hB.out) i hil
      obtain ⟨XL, hXL⟩ : ∃ x, r1[i] = x := ⟨_, rfl⟩
      rw [hXL] at x1
      obtain ⟨X, hSX0⟩ : ∃ X, S XL = X := ⟨_, rfl⟩
      have hSX : Hid (S XL = X) := hSX0
      rw [hSX0] at x1
      have hXd : X.toList = XL := by rw [← hSX0, toListS]
      by_cases hjl : j < r2.length
      · have j1 : (j : Int) < (r2.length : Int) := Int.ofNat_lt.2 hjl
        have j2 : ((j : Int) == (r2.length : Int)) = false := by rw [beq_eq_false_iff_ne]; omega
        obtain ⟨b2, f2, e4, x2⟩ := (hR2.out.below hB.out) j hjl
        obtain ⟨YL, hYL⟩ : ∃ x, r2[j] = x := ⟨_, rfl⟩
        rw [hYL] at x2
        obtain ⟨Y, hSY0⟩ : ∃ Y, S YL = Y := ⟨_, rfl⟩
        have hSY : Hid (S YL = Y) := hSY0
        rw [hSY0] at x2
        have hYd : Y.toList = YL := by rw [← hSY0, toListS]
        subst e3 e4
        by_cases hxy : XL < YL
        · have hls : Op.bytesLess X.toList Y.toList = true := by rw [hXd, hYd]; exact (less_iff _ _).2 hxy
          have hMn : Hid (Mg r1 r2 (i + 1) j (o ++ [XL])) := by
            have h := mg_left hM.out hil hf1.out.1 (up_all hf2.out.1 hjl (by rw [hXL, hYL]; exact hxy))
            rw [hXL] at h
            exact h
          have hil' : Hid (i < r1.length ∧ j < r2.length) := ⟨hil, hjl⟩
          clear hM hXL hYL hSX0 hSY0 hXd hYd hxy
          go_wp2_with fail
          go_quiet (fail)
          have hownD : OwnS (wr.drewN nq) W2.heap.size (.slice oa ol oc) o := ownS_of hown.out (fun _ _ => rfl)
          have hBD : Below W2.heap.size W2 (wr.drewN nq) := hB.out.trans (drewN_belowS _ _ _)
          have hszD : W2.heap.size ≤ (wr.drewN nq).heap.size := hsz
          have x1d : (wr.drewN nq).cell? ⟨b1, f1 + i, none⟩ = some (.string X) := x1
          have x2d : (wr.drewN nq).cell? ⟨b2, f2 + j, none⟩ = some (.string Y) := x2
          go_wp2_with (at_builtin; refine push_text _ rfl _ _ rfl W2.heap.size _ o XL _ rfl rfl ?_ ?_ ?_ hol.out ?_; (exact World.ownsRow.alloc hownD _); (rw [hSX.out]; exact heap_alloc_new _ _); (simp; omega); intro g6 cap6 w6 hown6 hgr6 hlie6 hb6)
          refine ⟨⟨i + 1, j, o ++ [XL], hil'.out.1, Nat.le_of_lt hil'.out.2, by simp, rfl, ⟨_, _, _, rfl, hown6⟩, (hBD.alloc hszD _).trans hb6, hMn⟩, ?_⟩
          have := hil'.out
          simp [intOf]
          omega
        · have hls : Op.bytesLess X.toList Y.toList = false := by rw [hXd, hYd, Bool.eq_false_iff]; exact fun q => hxy ((less_iff _ _).1 q)
          by_cases hyx : YL < XL
          · have hls2 : Op.bytesLess Y.toList X.toList = true := by rw [hXd, hYd]; exact (less_iff _ _).2 hyx
            have hMn : Hid (Mg r1 r2 i (j + 1) (o ++ [YL])) := by
              have h := mg_right hM.out hjl hf2.out.1 (up_all hf1.out.1 hil (by rw [hXL, hYL]; exact hyx))
              rw [hYL] at h
              exact h
            have hil' : Hid (i < r1.length ∧ j < r2.length) := ⟨hil, hjl⟩
            clear hM hXL hYL hSX0 hSY0 hXd hYd hxy hyx
            go_wp2_with fail
            go_quiet (fail)
            have hownD : OwnS (wr.drewN nq) W2.heap.size (.slice oa ol oc) o := ownS_of hown.out (fun _ _ => rfl)
            have hBD : Below W2.heap.size W2 (wr.drewN nq) := hB.out.trans (drewN_belowS _ _ _)
            have hszD : W2.heap.size ≤ (wr.drewN nq).heap.size := hsz
            have x1d : (wr.drewN nq).cell? ⟨b1, f1 + i, none⟩ = some (.string X) := x1
            have x2d : (wr.drewN nq).cell? ⟨b2, f2 + j, none⟩ = some (.string Y) := x2
            generalize wr.drewN nq = wd at *
            clear x1 x2 hown hB hsz
            go_wp2_with fail
            go_quiet (fail)
            have hownE : OwnS (wd.drewN nq) W2.heap.size (.slice oa ol oc) o := ownS_of hownD (fun _ _ => rfl)
            have hBE : Below W2.heap.size W2 (wd.drewN nq) := hBD.trans (drewN_belowS _ _ _)
            have hszE : W2.heap.size ≤ (wd.drewN nq).heap.size := hszD
            have x1e : (wd.drewN nq).cell? ⟨b1, f1 + i, none⟩ = some (.string X) := x1d
            have x2e : (wd.drewN nq).cell? ⟨b2, f2 + j, none⟩ = some (.string Y) := x2d
            go_wp2_with (at_builtin; refine push_text _ rfl _ _ rfl W2.heap.size _ o YL _ rfl rfl ?_ ?_ ?_ hol.out ?_; (exact World.ownsRow.alloc hownE _); (rw [hSY.out]; exact heap_alloc_new _ _); (simp; omega); intro g6 cap6 w6 hown6 hgr6 hlie6 hb6)
            refine ⟨⟨i, j + 1, o ++ [YL], Nat.le_of_lt hil'.out.1, hil'.out.2, rfl, by simp, ⟨_, _, _, rfl, hown6⟩, (hBE.alloc hszE _).trans hb6, hMn⟩, ?_⟩
            have := hil'.out
            simp [intOf]
            omega
          · have hls2 : Op.bytesLess Y.toList X.toList = false := by rw [hXd, hYd, Bool.eq_false_iff]; exact fun q => hyx ((less_iff _ _).1 q)
            have hMn : Hid (Mg r1 r2 (i + 1) j o) := mg_skip hM.out hil hjl (by rw [hXL, hYL]; exact eq_of_nlt hxy hyx)
            have hil' : Hid (i < r1.length ∧ j < r2.length) := ⟨hil, hjl⟩
            clear hM hXL hYL hSX0 hSY0 hXd hYd hxy hyx
            go_wp2_with fail
            go_quiet (fail)
            have hownD : OwnS (wr.drewN nq) W2.heap.size (.slice oa ol oc) o := ownS_of hown.out (fun _ _ => rfl)
            have hBD : Below W2.heap.size W2 (wr.drewN nq) := hB.out.trans (drewN_belowS _ _ _)
            have hszD : W2.heap.size ≤ (wr.drewN nq).heap.size := hsz
            have x1d : (wr.drewN nq).cell? ⟨b1, f1 + i, none⟩ = some (.string X) := x1
            have x2d : (wr.drewN nq).cell? ⟨b2, f2 + j, none⟩ = some (.string Y) := x2
            generalize wr.drewN nq = wd at *
            clear x1 x2 hown hB hsz
            go_wp2_with fail
            go_quiet (fail)
            have hownE : OwnS (wd.drewN nq) W2.heap.size (.slice oa ol oc) o := ownS_of hownD (fun _ _ => rfl)
            have hBE : Below W2.heap.size W2 (wd.drewN nq) := hBD.trans (drewN_belowS _ _ _)
            have hszE : W2.heap.size ≤ (wd.drewN nq).heap.size := hszD
            have x1e : (wd.drewN nq).cell? ⟨b1, f1 + i, none⟩ = some (.string X) := x1d
            have x2e : (wd.drewN nq).cell? ⟨b2, f2 + j, none⟩ = some (.string Y) := x2d
            go_wp2_with fail
            go_roundw
            case rel => exact ⟨i + 1, j, o, hil'.out.1, Nat.le_of_lt hil'.out.2, by simp, rfl, ⟨_, _, _, rfl, hownE⟩, hBE, hMn⟩
            case measure => have := hil'.out; simp [intOf]; omega
      · have hje : j = r2.length := by omega
        have j1 : ¬ (j : Int) < (r2.length : Int) := by omega
        have j2 : ((j : Int) == (r2.length : Int)) = true := by rw [beq_iff_eq]; omega
        subst e3
        have hMn : Hid (Mg r1 r2 (i + 1) j (o ++ [XL])) := by
          have h := mg_left hM.out hil hf1.out.1 (by rw [hje, List.drop_length]; simp)
          rw [hXL] at h
          exact h
        have hil' : Hid (i < r1.length ∧ j ≤ r2.length) := ⟨hil, hj⟩
        clear hM hXL hSX0 hXd hje
        go_wp2_with fail
        go_quiet (fail)
        have hownD : OwnS (wr.drewN nq) W2.heap.size (.slice oa ol oc) o := ownS_of hown.out (fun _ _ => rfl)
        have hBD : Below W2.heap.size W2 (wr.drewN nq) := hB.out.trans (drewN_belowS _ _ _)
        have hszD : W2.heap.size ≤ (wr.drewN nq).heap.size := hsz
        have x1d : (wr.drewN nq).cell? ⟨b1, f1 + i, none⟩ = some (.string X) := x1
        go_wp2_with (at_builtin; refine push_text _ rfl _ _ rfl W2.heap.size _ o XL _ rfl rfl ?_ ?_ ?_ hol.out ?_; (exact World.ownsRow.alloc hownD _); (rw [hSX.out]; exact heap_alloc_new _ _); (simp; omega); intro g6 cap6 w6 hown6 hgr6 hlie6 hb6)
        refine ⟨⟨i + 1, j, o ++ [XL], hil'.out.1, hil'.out.2, by simp, rfl, ⟨_, _, _, rfl, hown6⟩, (hBD.alloc hszD _).trans hb6, hMn⟩, ?_⟩
        have := hil'.out
        simp [intOf]
        omega
    · have hie : i = r1.length := by omega
      have i1 : ¬ (i : Int) < (r1.length : Int) := by omega
      have i2 : ((i : Int) == (r1.length : Int)) = true := by rw [beq_iff_eq]; omega
      by_cases hjl : j < r2.length
      · have j1 : (j : Int) < (r2.length : Int) := Int.ofNat_lt.2 hjl
        have j2 : ((j : Int) == (r2.length : Int)) = false := by rw [beq_eq_false_iff_ne]; omega
        obtain ⟨b2, f2, e4, x2⟩ := (hR2.out.below hB.out) j hjl
        obtain ⟨YL, hYL⟩ : ∃ x, r2[j] = x := ⟨_, rfl⟩
        rw [hYL] at x2
        obtain ⟨Y, hSY0⟩ : ∃ Y, S YL = Y := ⟨_, rfl⟩
        have hSY : Hid (S YL = Y) := hSY0
        rw [hSY0] at x2
        subst e4
        have hMn : Hid (Mg r1 r2 i (j + 1) (o ++ [YL])) := by
          have h := mg_right hM.out hjl hf2.out.1 (by rw [hie, List.drop_length]; simp)
          rw [hYL] at h
          exact h
        have hil' : Hid (i ≤ r1.length ∧ j < r2.length) := ⟨hi, hjl⟩
        clear hM hYL hSY0 hie
        go_wp2_with fail
        go_quiet (fail)
        have hownD : OwnS (wr.drewN nq) W2.heap.size (.slice oa ol oc) o := ownS_of hown.out (fun _ _ => rfl)
        have hBD : Below W2.heap.size W2 (wr.drewN nq) := hB.out.trans (drewN_belowS _ _ _)
        have hszD : W2.heap.size ≤ (wr.drewN nq).heap.size := hsz
        have x2d : (wr.drewN nq).cell? ⟨b2, f2 + j, none⟩ = some (.string Y) := x2
        generalize wr.drewN nq = wd at *
        clear x2 hown hB hsz
        go_wp2_with fail
        go_quiet (fail)
        have hownE : OwnS (wd.drewN nq) W2.heap.size (.slice oa ol oc) o := ownS_of hownD (fun _ _ => rfl)
        have hBE : Below W2.heap.size W2 (wd.drewN nq) := hBD.trans (drewN_belowS _ _ _)
        have hszE : W2.heap.size ≤ (wd.drewN nq).heap.size := hszD
        have x2e : (wd.drewN nq).cell? ⟨b2, f2 + j, none⟩ = some (.string Y) := x2d
        go_wp2_with (at_builtin; refine push_text _ rfl _ _ rfl W2.heap.size _ o YL _ rfl rfl ?_ ?_ ?_ hol.out ?_; (exact World.ownsRow.alloc hownE _); (rw [hSY.out]; exact heap_alloc_new _ _); (simp; omega); intro g6 cap6 w6 hown6 hgr6 hlie6 hb6)
        refine ⟨⟨i, j + 1, o ++ [YL], hil'.out.1, hil'.out.2, rfl, by simp, ⟨_, _, _, rfl, hown6⟩, (hBE.alloc hszE _).trans hb6, hMn⟩, ?_⟩
        have := hil'.out
        simp [intOf]
        omega
      · have hje : j = r2.length := by omega
        have j1 : ¬ (j : Int) < (r2.length : Int) := by omega
        subst hie hje
        have hE := mg_end hM.out
        have hfin : Hid (Up o ∧ (∀ z, z ∈ o ↔ z ∈ l) ∧ o.length ≤ l.length) := by
          refine ⟨hE.1, fun z => ?_, by have := hE.2.2; have := hf1.out.2.2; have := hf2.out.2.2; have := hlk.out; omega⟩
          rw [hE.2.1 z, hf1.out.2.1 z, hf2.out.2.1 z]
          conv => rhs; rw [← List.take_append_drop k l]
          rw [List.mem_append]
        obtain ⟨va, vc, he, hrow⟩ := ownS_trow hown.out
        injection he with he1 he2 he3
        subst he1 he2 he3
        have hcap : o.length ≤ oc := by
          rcases ownS_form hown.out with ⟨q1, q2⟩ | ⟨g, cap, q1⟩
          · rw [q2]; exact Nat.zero_le _
          · exact ownS_len hown.out
        have hplc : ∀ b off, oa = some ⟨b, off, none⟩ → w.heap.size ≤ b := by
          intro b off q
          rcases ownS_form hown.out with ⟨q1, _⟩ | ⟨g, cap, q1⟩
          · injection q1 with q1
            rw [q1] at q
            cases q
          · injection q1 with q2 _ _
            have h3 := (ownS_lt hown.out (g := g) (by rw [q2]; rfl)).1
            rw [q2] at q
            injection q with q
            injection q with q _
            have := o2.out.size
            omega
        have hrow' : Hid (Row wr oa o ∧ o.length ≤ oc ∧ ∀ b off, oa = some ⟨b, off, none⟩ → w.heap.size ≤ b) := ⟨TRow.row hrow, hcap, hplc⟩
        have oB : Hid (Below w.heap.size w wr) := o2.out.trans (hB.out.mono o2.out.size)
        clear hM hE hrow hcap hplc
        go_wp2_with fail
        go_ret
        exact ⟨⟨_, o, _, rfl, hrow'.out.1, hfin.out.1, hfin.out.2.1, hfin.out.2.2, hrow'.out.2.1, Or.inr hrow'.out.2.2⟩, oB.out⟩
theorem sorted_any : ∀ (n : Nat) (l : List (List UInt8)) (a : Option Addr) (c : Nat) (w : World), l.length ≤ n → Row w a l → l.length ≤ c → l.length ≤ 4194304 →
    Calls Tryd.prog 57 #[.slice a l.length c] w fun e w' => SrtQ l a w.heap.size w e w' := by
  intro n
  induction n with
  | zero => exact fun l a c w hn hr hc hl => sorted_short l a c w hr hc (by omega)
  | succ n ih =>
    intro l a c w hn hr hc hl
    by_cases h2 : l.length < 2
    · exact sorted_short l a c w hr hc h2
    · exact sorted_step n ih l a c w hn hr hc hl h2
end Go.Proofs.YtnboimoncpphlabDoor
