import Derived.Test.YtkknenmpdimdbaaGreatDoorPaW
import Derived.Test.YtkknenmpdimdbaaGreatDoorFW19
namespace Go.Proofs.YtkknenmpdimdbaaGreatDoor
namespace Pa
open Go.RowKit
open TextMath (fold lo normal check wo unhex)
open Du (GOwn GRow Kd append_gen)
open Ke (refV)
set_option linter.unusedVariables false
set_option linter.unusedSimpArgs false
set_option maxRecDepth 100000
theorem elU : Tryz.prog.underlying 87 = some (.slice (Tryz.prog.elem 87)) := by kernel_rfl
theorem szU (W : World) : (Go.sizeOf (Tryz.prog.elem 87)).run Tryz.prog W = .ok 1 W := by kernel_rfl
theorem frontB (a : Option Addr) (n c k : Nat) (hk : k ≤ c) (W : World) : (Instr.sliceAt 87 (.slice a n c) none (some (.int .i64 (k : Int))) none).run Tryz.prog W = .ok (.slice a k c) W := by
 rw [run_sliceAt_slice _ _ _ _ _ _ elU, run_slice_h _ _ _ _ _ elU _ _ (Int.natCast_nonneg _) (Int.ofNat_le.2 hk), szU]
 simp [Result.andThen, sliced]
 intro h
 cases a with
 | none => rfl
 | some x => simp [Addr.add]
def VQ (ev : Nat → TypeId × Value) (s : ByteArray) (b p : Nat) (w : World) (R : VR) (e : Ending) (w' : World) : Prop :=
 (∃ x r p', R = .ok (x, r) ∧ e = .returned (.tuple #[.string (S x), .nilIface]) ∧ lf s p' = r ∧ p ≤ p' ∧ p' ≤ s.size ∧ x.length ≤ 4096 ∧ Rd w' b s p' ∧ Wb b w w') ∨
 (∃ k m p', R = .error (k, m) ∧ e = .returned (.tuple #[.string ⟨#[]⟩, refV ev k ((s.size - m : Nat) : Int)]) ∧ p' ≤ s.size ∧ Rd w' b s p' ∧ Wb b w w')
theorem VQ.drew {ev : Nat → TypeId × Value} {s : ByteArray} {b p : Nat} {w : World} {R : VR} {e : Ending} {w' : World} (h : VQ ev s b p w R e w') (n : Nat) : VQ ev s b p w R e (w'.drewN n) := by
 rcases h with ⟨x, r, p', h1, h2, h3, h4, h5, h6, h7, h8⟩ | ⟨k, m, p', h1, h2, h3, h4, h5⟩
 ·exact Or.inl ⟨x, r, p', h1, h2, h3, h4, h5, h6, h7, h8.trans wb_drew⟩
 ·exact Or.inr ⟨k, m, p', h1, h2, h3, h4, h5.trans wb_drew⟩
theorem kO_cases (l : List UInt8) : kO l = 0 ∨ kO l = 1 ∨ kO l = 2 ∨ kO l = 3 ∨ kO l = 4 ∨ kO l = 5 ∨ kO l = 6 := by
 unfold kO
 split
 ·simp
 ·split
  ·simp
  ·split
   ·unfold kB
    repeat' split
    all_goals simp
   ·split
    ·simp
    ·split <;> simp
theorem kO3 {l : List UInt8} (h : kO l = 3) : ∃ x y r, l = 92 :: x :: y :: r ∧ hd x = true ∧ hd y = true := by
 unfold kO at h
 split at h
 ·cases h
 ·split at h
  ·cases h
  ·split at h
   ·rename_i c r _ hc
    subst hc
    unfold kB at h
    split at h
    ·cases h
    ·split at h
     ·cases h
     ·split at h
      ·cases h
      ·split at h
       ·rename_i hh
        rw [Bool.and_eq_true] at hh
        exact ⟨_, _, _, rfl, hh.1, hh.2⟩
       ·cases h
   ·split at h
    ·cases h
    ·split at h <;> cases h
theorem kO4 {l : List UInt8} (h : kO l = 4) : ∃ x r, l = 92 :: x :: r := by
 unfold kO at h
 split at h
 ·cases h
 ·split at h
  ·cases h
  ·split at h
   ·rename_i c r _ hc
    subst hc
    unfold kB at h
    split at h
    ·cases h
    ·exact ⟨_, _, rfl⟩
   ·split at h
    ·cases h
    ·split at h <;> cases h
theorem kO56 {l : List UInt8} (h : kO l = 5 ∨ kO l = 6) : ∃ x r, l = x :: r := by
 cases l with
 | nil => rcases h with h | h <;> cases h
 | cons x r => exact ⟨x, r, rfl⟩
theorem at_lf {s : ByteArray} {q : Nat} {x : UInt8} {r : List UInt8} (h : lf s q = x :: r) : q < s.size ∧ (∀ hq : q < s.size, s[q] = x) ∧ lf s (q + 1) = r := by
 have hq : q < s.size := by
  rcases Nat.lt_or_ge q s.size with h' | h'
  ·exact h'
  ·rw [lf_nil h'] at h; cases h
 rw [lf_cons hq] at h
 injection h with h1 h2
 exact ⟨hq, fun _ => h1, h2⟩
def TR (b : Nat) (s : ByteArray) (p : Nat) (w : World) (R : VR) (q c k n : Nat) (v : Value) (a : List UInt8) (W : World) : Prop :=
 TI b s q v a w W ∧ n = a.length ∧ c ≤ a.length ∧ q ≤ s.size ∧ p ≤ q ∧ a.length ≤ q ∧ s.size - q < k ∧ tv k (lf s q) a c = R
set_option maxHeartbeats 8000000 in
theorem textValue_any (ev : Nat → TypeId × Value) (s : ByteArray) (p b : Nat) (w : World) (h : Rd w b s p) (hp : p ≤ s.size) (hs : s.size ≤ 4096) (hE : EvA ev w) :
  Calls Tryz.prog 120 #[.pointer (some ⟨b, 0, none⟩)] w fun e w' => VQ ev s b p w (tv (s.size + 1) (lf s p) [] 0) e w' := by
 obtain ⟨R, hR⟩ : ∃ R, tv (s.size + 1) (lf s p) [] 0 = R := ⟨_, rfl⟩
 rw [hR]
 have h0 : Hid (TR b s p w R p 0 (s.size + 1) 0 (.slice none 0 0) [] w) := ⟨⟨GOwn.nil _ _ _ _ _, h, Wb.refl _ _, h.lt⟩, rfl, Nat.le_refl _, hp, Nat.le_refl _, Nat.zero_le _, by omega, hR⟩
 have h' : Hid (Rd w b s p ∧ EvA ev w ∧ s.size ≤ 4096) := ⟨h, hE, hs⟩
 clear h hp hE hR hs
 go_enter Tryz.func120, Tryz.ntmps120
 go_wp2_with fail
 go_loopw [4, 5] (fun vv cv wr => ∃ (q c k n cp : Nat) (va : Option Addr) (a : List UInt8), vv = .slice va n cp ∧ cv = .int .i64 (c : Int) ∧ Hid (TR b s p w R q c k n (.slice va n cp) a wr)) (fun _ _ wr => s.size - plc b wr)
 case atStart => exact ⟨p, 0, _, 0, 0, none, [], rfl, rfl, h0⟩
 case round =>
  obtain ⟨q, c, k, n, cp, va, a, rfl, rfl, hQ⟩ := hrel
  clear h0
  have c0i : (0 : Int) ≤ (c : Int) := Int.natCast_nonneg _
  have q0 : (0 : Int) ≤ (q : Int) := Int.natCast_nonneg _
  have n0 : (0 : Int) ≤ (n : Int) := Int.natCast_nonneg _
  have qb : (q : Int) ≤ 4096 := by have := h'.out.2.2; have := hQ.out.2.2.2.1; omega
  have nb : (n : Int) ≤ 4096 := by have := hQ.out.2.1; have := hQ.out.2.2.2.2.2.1; omega
  have hal : Hid (a.length ≤ 4096) := by have := hQ.out.2.2.2.2.2.1; unfold Hid; omega
  obtain ⟨m, rfl⟩ : ∃ m, k = m + 1 := ⟨k - 1, by have := hQ.out.2.2.2.2.2.2.1; omega⟩
  have hstep : Hid (tv (m + 1) (lf s q) a c = R) := hQ.out.2.2.2.2.2.2.2
  rw [tv_step] at hstep
  have hRest : Hid (Calls Tryz.prog 150 #[.pointer (some ⟨b, 0, none⟩)] wr fun e w' => e = .returned (.string (S (lf s q))) ∧ ∃ n, w' = wr.drewN n) := rest_any s q b wr hQ.out.1.2.1 hQ.out.2.2.2.1 h'.out.2.2
  have hKind : Hid (∀ W, Calls Tryz.prog 149 #[.string (S (lf s q))] W fun e w' => e = .returned (.int .i64 (kO (lf s q) : Int)) ∧ ∃ n, w' = W.drewN n) := fun W => by
   have h1 := kindOf_any (S (lf s q)) W (by rw [← size_l, S_l, lf_len]; have := h'.out.2.2; omega)
   rw [S_l] at h1
   exact h1
  have hplc : Hid (plc b wr = q) := plc_eq hQ.out.1.2.1
  rcases kO_cases (lf s q) with hk | hk | hk | hk | hk | hk | hk
  all_goals rw [hk] at hKind
  all_goals generalize S (lf s q) = X at *
  ·
   rw [if_pos hk] at hstep
   have hKind' : Hid (∀ W, Calls Tryz.prog 149 #[.string X] W fun e w' => e = .returned (.int .i64 0) ∧ ∃ n, w' = W.drewN n) := hKind
   have hcp : c ≤ cp := by
    obtain ⟨va', c', e, h1⟩ := hQ.out.1.form
    injection e with _ _ e
    have := hQ.out.2.2.1
    omega
   have hsl : ∀ X, (Instr.sliceAt 87 (.slice va n cp) none (some (.int .i64 (c : Int))) none).run Tryz.prog X = .ok (.slice va c cp) X := fun X => frontB va n cp c hcp X
   have hcv : Hid (∀ j, (convert 87 9 (.slice va c cp)).run Tryz.prog (wr.drewN j) = .ok (.string (S (a.take c))) (wr.drewN j)) := fun j => (hQ.out.1.drew j).front c hQ.out.2.2.1 va n cp rfl
   have hfin : Hid (∀ j, VQ ev s b p w R (.returned (.tuple #[.string (S (a.take c)), .nilIface])) (wr.drewN j)) := fun j => Or.inl ⟨a.take c, lf s q, q, hstep.out.symm, rfl, rfl, hQ.out.2.2.2.2.1, hQ.out.2.2.2.1, Nat.le_trans (List.length_take_le' ..) hal.out, (hQ.out.1.drew j).2.1, (hQ.out.1.drew j).2.2.1⟩
   clear hKind hk hQ hstep hplc hal hcp
   generalize S (a.take c) = Y at *
   go_wp2_with fail
   refine hRest.out.mono ?_
   rintro e w' ⟨rfl, n1, rfl⟩
   go_wp2_with fail
   refine (hKind'.out _).mono ?_
   rintro e w' ⟨rfl, n2, rfl⟩
   rw [World.drewN_drewN]
   have hcv' := hcv.out (n1 + n2)
   have hfin' : Hid (VQ ev s b p w R (.returned (.tuple #[.string Y, .nilIface])) (wr.drewN (n1 + n2))) := hfin.out _
   generalize wr.drewN (n1 + n2) = W2 at *
   clear hRest hKind' hcv hfin
   go_wp2_with fail
   go_ret2
   exact hfin'.out
  ·
   rw [if_neg (by rw [hk]; decide), if_pos hk] at hstep
   have hKind' : Hid (∀ W, Calls Tryz.prog 149 #[.string X] W fun e w' => e = .returned (.int .i64 1) ∧ ∃ n, w' = W.drewN n) := hKind
   have hql : (((s.size - (lf s q).length : Nat) : Int)) = (q : Int) := by rw [lf_len]; have := hQ.out.2.2.2.1; omega
   obtain ⟨et, het⟩ : ∃ et, ev 54 = et := ⟨_, rfl⟩
   have hfin : Hid (∀ j i, VQ ev s b p w R (.returned (.tuple #[.string ⟨#[]⟩, .iface 69 (.agg #[.iface et.1 et.2, .int .i64 (q : Int)])])) ((wr.drewN j).drewN i)) := fun j i => VQ.drew (Or.inr ⟨54, _, q, hstep.symm, by rw [hql, ← het]; rfl, hQ.out.2.2.2.1, (hQ.out.1.drew j).2.1, (hQ.out.1.drew j).2.2.1⟩) i
   have hgc : Hid (∀ j, (wr.drewN j).cell? ⟨4, 0, none⟩ = some (.iface et.1 et.2) ∧ (wr.drewN j).cell? ⟨b, 1, none⟩ = some (.int .i64 (q : Int))) := fun j => by
    have h1 := (h'.out.2.1.wb h'.out.1 (hQ.out.1.drew j).2.2.1) (54, 4) (by decide)
    rw [het] at h1
    exact ⟨h1, (hQ.out.1.drew j).2.1.cells.2.1⟩
   clear hKind hk hQ hstep hplc hal hql het
   go_wp2_with fail
   refine hRest.out.mono ?_
   rintro e w' ⟨rfl, n1, rfl⟩
   go_wp2_with fail
   refine (hKind'.out _).mono ?_
   rintro e w' ⟨rfl, n2, rfl⟩
   rw [World.drewN_drewN]
   obtain ⟨gc, pc⟩ := hgc.out (n1 + n2)
   have hfin' : Hid (∀ i, VQ ev s b p w R (.returned (.tuple #[.string ⟨#[]⟩, .iface 69 (.agg #[.iface et.1 et.2, .int .i64 (q : Int)])])) ((wr.drewN (n1 + n2)).drewN i)) := fun i => hfin.out _ i
   generalize wr.drewN (n1 + n2) = W2 at *
   clear hRest hKind' hgc hfin
   go_wp2_with fail
   go_quiet (fail)
   go_wp2_with fail
   go_ret2
   exact hfin'.out _
  ·
   rw [if_neg (by rw [hk]; decide), if_neg (by rw [hk]; decide), if_pos hk] at hstep
   have hKind' : Hid (∀ W, Calls Tryz.prog 149 #[.string X] W fun e w' => e = .returned (.int .i64 2) ∧ ∃ n, w' = W.drewN n) := hKind
   have hql : (((s.size - (lf s q).length : Nat) : Int)) = (q : Int) := by rw [lf_len]; have := hQ.out.2.2.2.1; omega
   obtain ⟨et, het⟩ : ∃ et, ev 55 = et := ⟨_, rfl⟩
   have hfin : Hid (∀ j i, VQ ev s b p w R (.returned (.tuple #[.string ⟨#[]⟩, .iface 69 (.agg #[.iface et.1 et.2, .int .i64 (q : Int)])])) ((wr.drewN j).drewN i)) := fun j i => VQ.drew (Or.inr ⟨55, _, q, hstep.symm, by rw [hql, ← het]; rfl, hQ.out.2.2.2.1, (hQ.out.1.drew j).2.1, (hQ.out.1.drew j).2.2.1⟩) i
   have hgc : Hid (∀ j, (wr.drewN j).cell? ⟨5, 0, none⟩ = some (.iface et.1 et.2) ∧ (wr.drewN j).cell? ⟨b, 1, none⟩ = some (.int .i64 (q : Int))) := fun j => by
    have h1 := (h'.out.2.1.wb h'.out.1 (hQ.out.1.drew j).2.2.1) (55, 5) (by decide)
    rw [het] at h1
    exact ⟨h1, (hQ.out.1.drew j).2.1.cells.2.1⟩
   clear hKind hk hQ hstep hplc hal hql het
   go_wp2_with fail
   refine hRest.out.mono ?_
   rintro e w' ⟨rfl, n1, rfl⟩
   go_wp2_with fail
   refine (hKind'.out _).mono ?_
   rintro e w' ⟨rfl, n2, rfl⟩
   rw [World.drewN_drewN]
   obtain ⟨gc, pc⟩ := hgc.out (n1 + n2)
   have hfin' : Hid (∀ i, VQ ev s b p w R (.returned (.tuple #[.string ⟨#[]⟩, .iface 69 (.agg #[.iface et.1 et.2, .int .i64 (q : Int)])])) ((wr.drewN (n1 + n2)).drewN i)) := fun i => hfin.out _ i
   generalize wr.drewN (n1 + n2) = W2 at *
   clear hRest hKind' hgc hfin
   go_wp2_with fail
   go_quiet (fail)
   go_wp2_with fail
   go_ret2
   exact hfin'.out _
  ·
   rw [if_neg (by rw [hk]; decide), if_neg (by rw [hk]; decide), if_neg (by rw [hk]; decide), if_pos hk] at hstep
   have hKind' : Hid (∀ W, Calls Tryz.prog 149 #[.string X] W fun e w' => e = .returned (.int .i64 3) ∧ ∃ n, w' = W.drewN n) := hKind
   obtain ⟨x, y, r, hl, hx, hy⟩ := kO3 hk
   obtain ⟨hq1, hx1, hl1⟩ := at_lf hl
   obtain ⟨hq2, hx2, hl2⟩ := at_lf hl1
   obtain ⟨hq3, hx3, hl3⟩ := at_lf hl2
   have hQs : Hid (q + 3 ≤ s.size) := hq3
   have hst : Hid (tv m (lf s (q + 3)) (a ++ [hb x y]) (a.length + 1) = R) := by
    rw [hl] at hstep
    have e : (92 :: x :: y :: r).drop 3 = lf s (q + 3) := hl3.symm
    rw [e] at hstep
    exact hstep
   obtain ⟨wx, hwx⟩ : ∃ z, wo x = some z := Option.isSome_iff_exists.1 hx
   obtain ⟨wy, hwy⟩ : ∃ z, wo y = some z := Option.isSome_iff_exists.1 hy
   have hun : Hid (∀ W, Calls Tryz.prog 151 #[.string (s.extract (q + 1) (q + 3))] W fun e w' => e = .returned (.tuple #[.string (S [hb x y]), .int .i64 0, .int .i64 2]) ∧ Below W.heap.size W w') := fun W => by
    have hsz : (s.extract (q + 1) (q + 3)).size = 2 := by rw [ByteArray.size_extract]; omega
    have h1 := unhex_any (s.extract (q + 1) (q + 3)) W (by omega)
    have e : (s.extract (q + 1) (q + 3)).data.toList = [x, y] := by
     rw [ext_lf, hl1, show q + 3 - (q + 1) = 2 from by omega]
     rfl
    have e2 : unhex [x, y] 0 = .ok [hb x y] := by
     rw [TextMath.unhex_pair x y [] 0 wx wy hwx hwy]
     unfold hb
     rw [hwx, hwy]
     rfl
    rw [e, e2, hsz] at h1
    exact h1
   have hS1 : (S [hb x y]).size = 1 := by rw [← size_l, S_l]; rfl
   have hSl : (S [hb x y]).data.toList = [hb x y] := S_l _
   obtain ⟨D, hD⟩ : ∃ D, S [hb x y] = D := ⟨_, rfl⟩
   rw [hD] at hun hS1 hSl
   clear hKind hk hstep hx hy hx1 hx2 hx3 hl hl1 hl2 hl3 hq1 hq2 hq3 hwx hwy hD
   go_wp2_with fail
   refine hRest.out.mono ?_
   rintro e w' ⟨rfl, n1, rfl⟩
   go_wp2_with fail
   refine (hKind'.out _).mono ?_
   rintro e w' ⟨rfl, n2, rfl⟩
   rw [World.drewN_drewN]
   have hT0 : Hid (TI b s q (.slice va n cp) a w (wr.drewN (n1 + n2))) := hQ.out.1.drew _
   generalize wr.drewN (n1 + n2) = W2 at *
   clear hRest hKind'
   have cd : W2.drew.cell? ⟨b, 0, none⟩ = some (.string s) ∧ W2.drew.cell? ⟨b, 1, none⟩ = some (.int .i64 (q : Int)) := ⟨hT0.out.2.1.cells.1, hT0.out.2.1.cells.2.1⟩
   have hq3i : (q : Int) + 3 ≤ (s.size : Int) := by have := hQs.out; omega
   have hsb : (s.size : Int) ≤ 4096 := by have := h'.out.2.2; omega
   obtain ⟨q1, hq1⟩ : ∃ z, q + 1 = z := ⟨_, rfl⟩
   obtain ⟨q3, hq3⟩ : ∃ z, q + 3 = z := ⟨_, rfl⟩
   rw [hq1, hq3] at hun
   have a1 : (q : Int) + 1 = (q1 : Int) := by omega
   have a3 : (q : Int) + 3 = (q3 : Int) := by omega
   have hq3e : Hid (q + 3 = q3) := hq3
   have b1 : (0 : Int) ≤ (q1 : Int) := Int.natCast_nonneg _
   have b2 : (q1 : Int) ≤ (q3 : Int) := by omega
   have b3 : (q3 : Int) ≤ (s.size : Int) := by have := hQs.out; omega
   have b4 : (q3 : Int) ≤ 4096 := by omega
   have w1 : IntKind.i64.wrap (q1 : Int) = (q1 : Int) := by rw [IntKind.wrap_i64]; omega
   have w3 : IntKind.i64.wrap (q3 : Int) = (q3 : Int) := by rw [IntKind.wrap_i64]; omega
   clear hq1 hq3 hq3i
   go_upto_region 14 with fail
   refine Du.regionP (fun i => i == 3 || i == 7 || i == 12 || i == 8 || i == 13 || i == 14 || i == 15) (fun w' => w'.cell? ⟨b, 0, none⟩ = some (.string s) ∧ w'.cell? ⟨b, 1, none⟩ = some (.int .i64 (q : Int))) (by kernel_rfl) ?_
   refine RgN.n_takeWl 0 ?vae1 (by rfl) (by kernel_rfl) (by kernel_rfl) (by kernel_rfl) rfl (by rfl) ?yae1 ?rae1
   case yae1 =>
    intro w'
    go_simp
    try with_reducible rfl
   case rae1 =>
   simp only [Act.put, List.setIfInBounds_toArray, List.set_cons_zero, List.set_cons_succ]
   refine RgN.n_takeWl 1 ?vae2 (by rfl) (by kernel_rfl) (by kernel_rfl) (by kernel_rfl) rfl (by rfl) ?yae2 ?rae2
   case yae2 =>
    intro w'
    go_simp
    try with_reducible rfl
   case rae2 =>
   simp only [Act.put, List.setIfInBounds_toArray, List.set_cons_zero, List.set_cons_succ]
   refine RgN.n_takeWl 2 ?vae3 (by rfl) (by kernel_rfl) (by kernel_rfl) (by kernel_rfl) rfl (by rfl) ?yae3 ?rae3
   case yae3 =>
    intro w'
    go_simp
    try with_reducible rfl
   case rae3 =>
   simp only [Act.put, List.setIfInBounds_toArray, List.set_cons_zero, List.set_cons_succ]
   refine RgN.n_takeWl 4 ?vae4 (by rfl) (by kernel_rfl) (by kernel_rfl) (by kernel_rfl) rfl (by rfl) ?yae4 ?rae4
   case yae4 =>
    intro w'
    go_simp
    try with_reducible rfl
   case rae4 =>
   simp only [Act.put, List.setIfInBounds_toArray, List.set_cons_zero, List.set_cons_succ]
   refine RgN.n_takeWl 5 ?vae5 (by rfl) (by kernel_rfl) (by kernel_rfl) (by kernel_rfl) rfl (by rfl) ?yae5 ?rae5
   case yae5 =>
    intro w'
    go_simp
    try with_reducible rfl
   case rae5 =>
   simp only [Act.put, List.setIfInBounds_toArray, List.set_cons_zero, List.set_cons_succ]
   refine RgN.n_takeWl 6 ?vae6 (by rfl) (by kernel_rfl) (by kernel_rfl) (by kernel_rfl) rfl (by rfl) ?yae6 ?rae6
   case yae6 =>
    intro w'
    go_simp
    try with_reducible rfl
   case rae6 =>
   simp only [Act.put, List.setIfInBounds_toArray, List.set_cons_zero, List.set_cons_succ]
   refine RgN.n_takeWl 9 ?vae7 (by rfl) (by kernel_rfl) (by kernel_rfl) (by kernel_rfl) rfl (by rfl) ?yae7 ?rae7
   case yae7 =>
    intro w'
    go_simp
    try with_reducible rfl
   case rae7 =>
   simp only [Act.put, List.setIfInBounds_toArray, List.set_cons_zero, List.set_cons_succ]
   refine RgN.n_takeWl 10 ?vae8 (by rfl) (by kernel_rfl) (by kernel_rfl) (by kernel_rfl) rfl (by rfl) ?yae8 ?rae8
   case yae8 =>
    intro w'
    go_simp
    try with_reducible rfl
   case rae8 =>
   simp only [Act.put, List.setIfInBounds_toArray, List.set_cons_zero, List.set_cons_succ]
   refine RgN.n_takeWl 11 ?vae9 (by rfl) (by kernel_rfl) (by kernel_rfl) (by kernel_rfl) rfl (by rfl) ?yae9 ?rae9
   case yae9 =>
    intro w'
    go_simp
    try with_reducible rfl
   case rae9 =>
   simp only [Act.put, List.setIfInBounds_toArray, List.set_cons_zero, List.set_cons_succ]
   refine RgN.n_takel 3 ?vae10 (by rfl) (by kernel_rfl) (by kernel_rfl) (by kernel_rfl) (by kernel_rfl) (by rfl) cd ?yae10 ?rae10
   case yae10 =>
    intro w' hS
    obtain ⟨h0, h1⟩ := hS
    go_simp
    try with_reducible rfl
   case rae10 =>
   simp only [Act.put, List.setIfInBounds_toArray, List.set_cons_zero, List.set_cons_succ]
   refine RgN.n_takel 7 ?vae11 (by rfl) (by kernel_rfl) (by kernel_rfl) (by kernel_rfl) (by kernel_rfl) (by rfl) cd ?yae11 ?rae11
   case yae11 =>
    intro w' hS
    obtain ⟨h0, h1⟩ := hS
    go_simp
    try with_reducible rfl
   case rae11 =>
   simp only [Act.put, List.setIfInBounds_toArray, List.set_cons_zero, List.set_cons_succ]
   refine RgN.n_takel 12 ?vae12 (by rfl) (by kernel_rfl) (by kernel_rfl) (by kernel_rfl) (by kernel_rfl) (by rfl) cd ?yae12 ?rae12
   case yae12 =>
    intro w' hS
    obtain ⟨h0, h1⟩ := hS
    go_simp
    try with_reducible rfl
   case rae12 =>
   simp only [Act.put, List.setIfInBounds_toArray, List.set_cons_zero, List.set_cons_succ]
   refine RgN.n_takel 8 ?vae13 (by rfl) (by kernel_rfl) (by kernel_rfl) (by kernel_rfl) (by kernel_rfl) (by rfl) cd ?yae13 ?rae13
   case yae13 =>
    intro w' hS
    obtain ⟨h0, h1⟩ := hS
    go_simp
    try with_reducible rfl
   case rae13 =>
   simp only [Act.put, List.setIfInBounds_toArray, List.set_cons_zero, List.set_cons_succ]
   refine RgN.n_takel 13 ?vae14 (by rfl) (by kernel_rfl) (by kernel_rfl) (by kernel_rfl) (by kernel_rfl) (by rfl) cd ?yae14 ?rae14
   case yae14 =>
    intro w' hS
    obtain ⟨h0, h1⟩ := hS
    go_simp
    try with_reducible rfl
   case rae14 =>
   simp only [Act.put, List.setIfInBounds_toArray, List.set_cons_zero, List.set_cons_succ]
   refine RgN.n_takel 14 ?vae15 (by rfl) (by kernel_rfl) (by kernel_rfl) (by kernel_rfl) (by kernel_rfl) (by rfl) cd ?yae15 ?rae15
   case yae15 =>
    intro w' hS
    obtain ⟨h0, h1⟩ := hS
    go_simp
    try with_reducible rfl
   case rae15 =>
   simp only [Act.put, List.setIfInBounds_toArray, List.set_cons_zero, List.set_cons_succ]
   refine RgN.n_onel 15 (by kernel_rfl) (by rfl) (fun K hK => ?_)
   go_simp
   refine (hun.out _).mono ?_
   rintro e w8 ⟨rfl, hb8⟩
   have hT8 : Hid (TI b s q (.slice va n cp) a w w8) := (hT0.out.drew 1).wb (Wb.of_below hb8 (Nat.le_of_lt (hT0.out.drew 1).2.1.lt)) ((hT0.out.drew 1).2.1.below hb8)
   have cd8 := And.intro hT8.out.2.1.cells.1 hT8.out.2.1.cells.2.1
   clear hb8
   go_simp
   refine hK.out _ _ (fun _ => cd8) ?_
   clear hK K
   try simp only [Act.put, List.setIfInBounds_toArray, List.set_cons_zero, List.set_cons_succ]
   refine RgN.n_onel 16 (by kernel_rfl) (by rfl) (fun K hK => ?_)
   go_simp
   refine hK.out _ _ (fun h => by cases h) ?_
   clear hK K
   try simp only [Act.put, List.setIfInBounds_toArray, List.set_cons_zero, List.set_cons_succ]
   refine RgN.n_takeWl 17 ?vae18 (by rfl) (by kernel_rfl) (by kernel_rfl) (by kernel_rfl) rfl (by rfl) ?yae18 ?rae18
   case yae18 =>
    intro w'
    go_simp
    try with_reducible rfl
   case rae18 =>
   simp only [Act.put, List.setIfInBounds_toArray, List.set_cons_zero, List.set_cons_succ]
   refine RgN.n_takeWl 18 ?vae19 (by rfl) (by kernel_rfl) (by kernel_rfl) (by kernel_rfl) rfl (by rfl) ?yae19 ?rae19
   case yae19 =>
    intro w'
    go_simp
    try with_reducible rfl
   case rae19 =>
   simp only [Act.put, List.setIfInBounds_toArray, List.set_cons_zero, List.set_cons_succ]
   refine RgN.n_takeWl 19 ?vae20 (by rfl) (by kernel_rfl) (by kernel_rfl) (by kernel_rfl) rfl (by rfl) ?yae20 ?rae20
   case yae20 =>
    intro w'
    go_simp
    try with_reducible rfl
   case rae20 =>
   simp only [Act.put, List.setIfInBounds_toArray, List.set_cons_zero, List.set_cons_succ]
   refine RgN.n_onel 20 (by kernel_rfl) (by rfl) (fun K hK => ?_)
   go_simp
   refine hK.out _ _ (fun h => by cases h) ?_
   clear hK K
   try simp only [Act.put, List.setIfInBounds_toArray, List.set_cons_zero, List.set_cons_succ]
   refine RgN.n_onel 21 (by kernel_rfl) (by rfl) (fun K hK => ?_)
   go_simp
   refine hK.out _ _ (fun h => by cases h) ?_
   clear hK K
   try simp only [Act.put, List.setIfInBounds_toArray, List.set_cons_zero, List.set_cons_succ]
   refine RgN.n_onel 22 (by kernel_rfl) (by rfl) (fun K hK => ?_)
   go_simp
   refine hK.out _ _ (fun h => by cases h) ?_
   clear hK K
   try simp only [Act.put, List.setIfInBounds_toArray, List.set_cons_zero, List.set_cons_succ]
   refine RgN.n_done (by kernel_rfl) ?_ _
   obtain ⟨xa, xn, xc, W5, e1, h5, hxn⟩ := hT8.out.text D hal.out (by omega)
   rw [hSl] at h5
   have h5' : Hid (TI b s q (.slice xa xn xc) (a ++ [hb x y]) w W5 ∧ xn = a.length + 1) := ⟨h5, by rw [hxn, hS1]⟩
   obtain ⟨f0, f1, f2⟩ := h5'.out.1.2.1.cells
   have hfin : Hid (TR b s p w R q3 xn m xn (.slice xa xn xc) (a ++ [hb x y]) (W5.setCell ⟨b, 1, none⟩ (.int .i64 ((q3 : Nat) : Int)))) := by
    obtain ⟨r1, r2, r3, r4, r5, r6, r7, r8⟩ := hQ.out
    have hq3' := hq3e.out
    have hs' := hQs.out
    have hxn' := h5'.out.2
    refine ⟨h5'.out.1.set q3, by rw [hxn', List.length_append]; rfl, ?_, by omega, by omega, ?_, by omega, ?_⟩
    ·rw [hxn', List.length_append]; simp
    ·rw [List.length_append]; simp; omega
    ·rw [hxn', ← hq3']; exact hst.out
   have hms : Hid (s.size - plc b (W5.setCell ⟨b, 1, none⟩ (.int .i64 ((q3 : Nat) : Int))) < s.size - plc b wr) := by
    have e1 := plc_eq hfin.out.1.2.1
    have e2 := hplc.out
    have e3 := hq3e.out
    have e4 := hQs.out
    unfold Hid
    rw [e1, e2]
    omega
   clear hQ hst hplc hal h5 hxn hSl hS1 cd cd8 hT8 hT0 hun
   go_wp2_with (at_builtin; refine Lib.wpList_append_run _ rfl _ _ _ _ rfl _ _ rfl rfl _ _ e1 ?_; clear e1)
   go_roundw
   case rel => exact ⟨q3, xn, m, xn, xc, xa, a ++ [hb x y], rfl, rfl, hfin⟩
   case measure => exact hms.out
  ·
   rw [if_neg (by rw [hk]; decide), if_neg (by rw [hk]; decide), if_neg (by rw [hk]; decide), if_neg (by rw [hk]; decide), if_pos hk] at hstep
   have hKind' : Hid (∀ W, Calls Tryz.prog 149 #[.string X] W fun e w' => e = .returned (.int .i64 4) ∧ ∃ n, w' = W.drewN n) := hKind
   obtain ⟨x, r, hl⟩ := kO4 hk
   obtain ⟨hq1, _, hl1⟩ := at_lf hl
   obtain ⟨hq2, hx2, hl2⟩ := at_lf hl1
   obtain ⟨Q, hQe⟩ : ∃ Q, q + 1 = Q := ⟨_, rfl⟩
   rw [hQe] at hq2 hl2
   have hQs : Hid (Q < s.size) := hq2
   have hQx : Hid (∀ h : Q < s.size, s[Q] = x) := by subst hQe; exact hx2
   have hst : Hid (tv m (lf s (Q + 1)) (a ++ [x]) (a.length + 1) = R) := by
    rw [hl] at hstep
    have e : (92 :: x :: r).drop 2 = lf s (Q + 1) := hl2.symm
    rw [e] at hstep
    exact hstep
   have hinc : Hid (q + 1 = Q) := hQe
   clear hx2 hl1 hl2 hq1 hq2 hQe hl
   clear hKind hk hstep
   go_wp2_with fail
   refine hRest.out.mono ?_
   rintro e w' ⟨rfl, n1, rfl⟩
   go_wp2_with fail
   refine (hKind'.out _).mono ?_
   rintro e w' ⟨rfl, n2, rfl⟩
   rw [World.drewN_drewN]
   have hT0 : Hid (TI b s q (.slice va n cp) a w (wr.drewN (n1 + n2))) := hQ.out.1.drew _
   generalize wr.drewN (n1 + n2) = W2 at *
   clear hRest hKind'
   obtain ⟨g0, g1, g2⟩ := hT0.out.2.1.cells
   have hT : Hid (TI b s Q (.slice va n cp) a w (W2.setCell ⟨b, 1, none⟩ (.int .i64 ((Q : Nat) : Int)))) := hT0.out.set Q
   have hQi : ((q : Int) + 1) = (Q : Int) := by have := hinc.out; omega
   have hQb : (Q : Int) < (s.size : Int) := Int.ofNat_lt.2 hQs.out
   have Q0 : (0 : Int) ≤ (Q : Int) := Int.natCast_nonneg _
   have Qb : (Q : Int) ≤ 4096 := by have := h'.out.2.2; have := hQs.out; omega
   obtain ⟨WX, hWX⟩ : ∃ Z, W2.setCell ⟨b, 1, none⟩ (.int .i64 ((Q : Nat) : Int)) = Z := ⟨_, rfl⟩
   rw [hWX] at hT
   clear hT0
   go_upto_region 20 with fail
   clear g0 g1 g2 hWX
   have hltQ : Q < s.size := hQs.out
   have hsx : s[Q] = x := hQx.out hltQ
   obtain ⟨xa, xn, xc, W5, e1, h5, hxn, hrA⟩ := (hT.out.drew 1).push x hal.out
   have cd : WX.drew.cell? ⟨b, 0, none⟩ = some (.string s) ∧ WX.drew.cell? ⟨b, 1, none⟩ = some (.int .i64 (Q : Int)) := ⟨hT.out.2.1.cells.1, hT.out.2.1.cells.2.1⟩
   have h5' : Hid (TI b s Q (.slice xa xn xc) (a ++ [x]) w W5 ∧ xn = a.length + 1) := ⟨h5, hxn⟩
   clear h5 hxn hrA hT
   go_upto_region 20 with fail
   refine Du.regionP (fun i => i == 4 || i == 8) (fun w' => w'.cell? ⟨b, 0, none⟩ = some (.string s) ∧ w'.cell? ⟨b, 1, none⟩ = some (.int .i64 (Q : Int))) (by kernel_rfl) ?_
   refine RgN.n_takeWl 0 ?vab1 (by rfl) (by kernel_rfl) (by kernel_rfl) (by kernel_rfl) rfl (by rfl) ?yab1 ?rab1
   case yab1 =>
    intro w'
    go_simp
    try with_reducible rfl
   case rab1 =>
   simp only [Act.put, List.setIfInBounds_toArray, List.set_cons_zero, List.set_cons_succ]
   refine RgN.n_takeWl 1 ?vab2 (by rfl) (by kernel_rfl) (by kernel_rfl) (by kernel_rfl) rfl (by rfl) ?yab2 ?rab2
   case yab2 =>
    intro w'
    go_simp
    try with_reducible rfl
   case rab2 =>
   simp only [Act.put, List.setIfInBounds_toArray, List.set_cons_zero, List.set_cons_succ]
   refine RgN.n_takeWl 2 ?vab3 (by rfl) (by kernel_rfl) (by kernel_rfl) (by kernel_rfl) rfl (by rfl) ?yab3 ?rab3
   case yab3 =>
    intro w'
    go_simp
    try with_reducible rfl
   case rab3 =>
   simp only [Act.put, List.setIfInBounds_toArray, List.set_cons_zero, List.set_cons_succ]
   refine RgN.n_takeWl 3 ?vab4 (by rfl) (by kernel_rfl) (by kernel_rfl) (by kernel_rfl) rfl (by rfl) ?yab4 ?rab4
   case yab4 =>
    intro w'
    go_simp
    try with_reducible rfl
   case rab4 =>
   simp only [Act.put, List.setIfInBounds_toArray, List.set_cons_zero, List.set_cons_succ]
   refine RgN.n_takeWl 5 ?vab5 (by rfl) (by kernel_rfl) (by kernel_rfl) (by kernel_rfl) rfl (by rfl) ?yab5 ?rab5
   case yab5 =>
    intro w'
    go_simp
    try with_reducible rfl
   case rab5 =>
   simp only [Act.put, List.setIfInBounds_toArray, List.set_cons_zero, List.set_cons_succ]
   refine RgN.n_takeWl 6 ?vab6 (by rfl) (by kernel_rfl) (by kernel_rfl) (by kernel_rfl) rfl (by rfl) ?yab6 ?rab6
   case yab6 =>
    intro w'
    go_simp
    try with_reducible rfl
   case rab6 =>
   simp only [Act.put, List.setIfInBounds_toArray, List.set_cons_zero, List.set_cons_succ]
   refine RgN.n_takeWl 7 ?vab7 (by rfl) (by kernel_rfl) (by kernel_rfl) (by kernel_rfl) rfl (by rfl) ?yab7 ?rab7
   case yab7 =>
    intro w'
    go_simp
    try with_reducible rfl
   case rab7 =>
   simp only [Act.put, List.setIfInBounds_toArray, List.set_cons_zero, List.set_cons_succ]
   refine RgN.n_takel 4 ?vab8 (by rfl) (by kernel_rfl) (by kernel_rfl) (by kernel_rfl) (by kernel_rfl) (by rfl) cd ?yab8 ?rab8
   case yab8 =>
    intro w' hS
    obtain ⟨h0, h1⟩ := hS
    go_simp
    try with_reducible rfl
   case rab8 =>
   simp only [Act.put, List.setIfInBounds_toArray, List.set_cons_zero, List.set_cons_succ]
   refine RgN.n_takel 8 ?vab9 (by rfl) (by kernel_rfl) (by kernel_rfl) (by kernel_rfl) (by kernel_rfl) (by rfl) cd ?yab9 ?rab9
   case yab9 =>
    intro w' hS
    obtain ⟨h0, h1⟩ := hS
    go_simp
    try with_reducible rfl
   case rab9 =>
   simp only [Act.put, List.setIfInBounds_toArray, List.set_cons_zero, List.set_cons_succ]
   refine RgN.n_onel 9 (by kernel_rfl) (by rfl) (fun K hK => ?_)
   go_simp
   refine hK.out _ _ (fun h => by cases h) ?_
   clear hK K
   try simp only [Act.put, List.setIfInBounds_toArray, List.set_cons_zero, List.set_cons_succ]
   refine RgN.n_onel 10 (by kernel_rfl) (by rfl) (fun K hK => ?_)
   go_simp
   refine hK.out _ _ (fun h => by cases h) ?_
   clear hK K
   try simp only [Act.put, List.setIfInBounds_toArray, List.set_cons_zero, List.set_cons_succ]
   refine RgN.n_onel 11 (by kernel_rfl) (by rfl) (fun K hK => ?_)
   refine step_run _ (by rfl) _ _ _ _ (by rfl) _ _ (by rfl) (by rfl) _ _ e1 ?_
   refine hK.out _ _ (fun h => by cases h) ?_
   clear hK K
   try simp only [Act.put, List.setIfInBounds_toArray, List.set_cons_zero, List.set_cons_succ]
   refine RgN.n_onel 12 (by kernel_rfl) (by rfl) (fun K hK => ?_)
   go_simp
   refine hK.out _ _ (fun h => by cases h) ?_
   clear hK K
   try simp only [Act.put, List.setIfInBounds_toArray, List.set_cons_zero, List.set_cons_succ]
   refine RgN.n_done (by kernel_rfl) ?_ _
   clear cd e1
   obtain ⟨f0, f1, f2⟩ := h5'.out.1.2.1.cells
   have hqQ : Hid (q ≤ Q) := by unfold Hid; have := hinc.out; omega
   have hfin : Hid (TR b s p w R (Q + 1) (n + 1) m xn (.slice xa xn xc) (a ++ [x]) (W5.setCell ⟨b, 1, none⟩ (.int .i64 ((Q + 1 : Nat) : Int)))) := by
    obtain ⟨r1, r2, r3, r4, r5, r6, r7, r8⟩ := hQ.out
    have hqQ' := hqQ.out
    have hs' := hQs.out
    refine ⟨h5'.out.1.set (Q + 1), by rw [h5'.out.2, List.length_append]; rfl, ?_, by omega, by omega, ?_, by omega, ?_⟩
    ·rw [List.length_append]; simp; omega
    ·rw [List.length_append]; simp; omega
    ·rw [r2]; exact hst.out
   have hms : Hid (s.size - plc b (W5.setCell ⟨b, 1, none⟩ (.int .i64 ((Q + 1 : Nat) : Int))) < s.size - plc b wr) := by
    have e1 := plc_eq hfin.out.1.2.1
    have e2 := hplc.out
    have e3 := hqQ.out
    have e4 := hQs.out
    unfold Hid
    rw [e1, e2]
    omega
   clear hQ hst hQx hqQ hplc hal
   go_wp2_with fail
   go_roundw
   case rel => exact ⟨Q + 1, n + 1, m, xn, xc, xa, a ++ [x], rfl, by go_num, hfin⟩
   case measure => exact hms.out
  ·
   rw [if_neg (by rw [hk]; decide), if_neg (by rw [hk]; decide), if_neg (by rw [hk]; decide), if_neg (by rw [hk]; decide), if_neg (by rw [hk]; decide), if_pos hk] at hstep
   have hKind' : Hid (∀ W, Calls Tryz.prog 149 #[.string X] W fun e w' => e = .returned (.int .i64 5) ∧ ∃ n, w' = W.drewN n) := hKind
   obtain ⟨x, r, hl⟩ := kO56 (Or.inl hk)
   obtain ⟨hq1, hx1, hl1⟩ := at_lf hl
   have hQs : Hid (q < s.size) := hq1
   have hQx : Hid (∀ h : q < s.size, s[q] = x) := hx1
   have hst : Hid (tv m (lf s (q + 1)) (a ++ [x]) (a.length + 1) = R) := by
    rw [hl] at hstep
    have e : (x :: r).drop 1 = lf s (q + 1) := hl1.symm
    rw [e] at hstep
    exact hstep
   clear hx1 hl1 hq1 hl
   clear hKind hk hstep
   go_wp2_with fail
   refine hRest.out.mono ?_
   rintro e w' ⟨rfl, n1, rfl⟩
   go_wp2_with fail
   refine (hKind'.out _).mono ?_
   rintro e w' ⟨rfl, n2, rfl⟩
   rw [World.drewN_drewN]
   have hT0 : Hid (TI b s q (.slice va n cp) a w (wr.drewN (n1 + n2))) := hQ.out.1.drew _
   generalize wr.drewN (n1 + n2) = W2 at *
   clear hRest hKind'
   have hQb : (q : Int) < (s.size : Int) := Int.ofNat_lt.2 hQs.out
   have hltQ : q < s.size := hQs.out
   have hsx : s[q] = x := hQx.out hltQ
   obtain ⟨xa, xn, xc, W5, e1, h5, hxn, hrA⟩ := (hT0.out.drew 1).push x hal.out
   have cd : W2.drew.cell? ⟨b, 0, none⟩ = some (.string s) ∧ W2.drew.cell? ⟨b, 1, none⟩ = some (.int .i64 (q : Int)) := ⟨hT0.out.2.1.cells.1, hT0.out.2.1.cells.2.1⟩
   have h5' : Hid (TI b s q (.slice xa xn xc) (a ++ [x]) w W5 ∧ xn = a.length + 1) := ⟨h5, hxn⟩
   clear h5 hxn hrA hT0
   go_upto_region 20 with fail
   refine Du.regionP (fun i => i == 4 || i == 8) (fun w' => w'.cell? ⟨b, 0, none⟩ = some (.string s) ∧ w'.cell? ⟨b, 1, none⟩ = some (.int .i64 (q : Int))) (by kernel_rfl) ?_
   refine RgN.n_takeWl 0 ?vac1 (by rfl) (by kernel_rfl) (by kernel_rfl) (by kernel_rfl) rfl (by rfl) ?yac1 ?rac1
   case yac1 =>
    intro w'
    go_simp
    try with_reducible rfl
   case rac1 =>
   simp only [Act.put, List.setIfInBounds_toArray, List.set_cons_zero, List.set_cons_succ]
   refine RgN.n_takeWl 1 ?vac2 (by rfl) (by kernel_rfl) (by kernel_rfl) (by kernel_rfl) rfl (by rfl) ?yac2 ?rac2
   case yac2 =>
    intro w'
    go_simp
    try with_reducible rfl
   case rac2 =>
   simp only [Act.put, List.setIfInBounds_toArray, List.set_cons_zero, List.set_cons_succ]
   refine RgN.n_takeWl 2 ?vac3 (by rfl) (by kernel_rfl) (by kernel_rfl) (by kernel_rfl) rfl (by rfl) ?yac3 ?rac3
   case yac3 =>
    intro w'
    go_simp
    try with_reducible rfl
   case rac3 =>
   simp only [Act.put, List.setIfInBounds_toArray, List.set_cons_zero, List.set_cons_succ]
   refine RgN.n_takeWl 3 ?vac4 (by rfl) (by kernel_rfl) (by kernel_rfl) (by kernel_rfl) rfl (by rfl) ?yac4 ?rac4
   case yac4 =>
    intro w'
    go_simp
    try with_reducible rfl
   case rac4 =>
   simp only [Act.put, List.setIfInBounds_toArray, List.set_cons_zero, List.set_cons_succ]
   refine RgN.n_takeWl 5 ?vac5 (by rfl) (by kernel_rfl) (by kernel_rfl) (by kernel_rfl) rfl (by rfl) ?yac5 ?rac5
   case yac5 =>
    intro w'
    go_simp
    try with_reducible rfl
   case rac5 =>
   simp only [Act.put, List.setIfInBounds_toArray, List.set_cons_zero, List.set_cons_succ]
   refine RgN.n_takeWl 6 ?vac6 (by rfl) (by kernel_rfl) (by kernel_rfl) (by kernel_rfl) rfl (by rfl) ?yac6 ?rac6
   case yac6 =>
    intro w'
    go_simp
    try with_reducible rfl
   case rac6 =>
   simp only [Act.put, List.setIfInBounds_toArray, List.set_cons_zero, List.set_cons_succ]
   refine RgN.n_takeWl 7 ?vac7 (by rfl) (by kernel_rfl) (by kernel_rfl) (by kernel_rfl) rfl (by rfl) ?yac7 ?rac7
   case yac7 =>
    intro w'
    go_simp
    try with_reducible rfl
   case rac7 =>
   simp only [Act.put, List.setIfInBounds_toArray, List.set_cons_zero, List.set_cons_succ]
   refine RgN.n_takel 4 ?vac8 (by rfl) (by kernel_rfl) (by kernel_rfl) (by kernel_rfl) (by kernel_rfl) (by rfl) cd ?yac8 ?rac8
   case yac8 =>
    intro w' hS
    obtain ⟨h0, h1⟩ := hS
    go_simp
    try with_reducible rfl
   case rac8 =>
   simp only [Act.put, List.setIfInBounds_toArray, List.set_cons_zero, List.set_cons_succ]
   refine RgN.n_takel 8 ?vac9 (by rfl) (by kernel_rfl) (by kernel_rfl) (by kernel_rfl) (by kernel_rfl) (by rfl) cd ?yac9 ?rac9
   case yac9 =>
    intro w' hS
    obtain ⟨h0, h1⟩ := hS
    go_simp
    try with_reducible rfl
   case rac9 =>
   simp only [Act.put, List.setIfInBounds_toArray, List.set_cons_zero, List.set_cons_succ]
   refine RgN.n_onel 9 (by kernel_rfl) (by rfl) (fun K hK => ?_)
   go_simp
   refine hK.out _ _ (fun h => by cases h) ?_
   clear hK K
   try simp only [Act.put, List.setIfInBounds_toArray, List.set_cons_zero, List.set_cons_succ]
   refine RgN.n_onel 10 (by kernel_rfl) (by rfl) (fun K hK => ?_)
   go_simp
   refine hK.out _ _ (fun h => by cases h) ?_
   clear hK K
   try simp only [Act.put, List.setIfInBounds_toArray, List.set_cons_zero, List.set_cons_succ]
   refine RgN.n_onel 11 (by kernel_rfl) (by rfl) (fun K hK => ?_)
   refine step_run _ (by rfl) _ _ _ _ (by rfl) _ _ (by rfl) (by rfl) _ _ e1 ?_
   refine hK.out _ _ (fun h => by cases h) ?_
   clear hK K
   try simp only [Act.put, List.setIfInBounds_toArray, List.set_cons_zero, List.set_cons_succ]
   refine RgN.n_onel 12 (by kernel_rfl) (by rfl) (fun K hK => ?_)
   go_simp
   refine hK.out _ _ (fun h => by cases h) ?_
   clear hK K
   try simp only [Act.put, List.setIfInBounds_toArray, List.set_cons_zero, List.set_cons_succ]
   refine RgN.n_done (by kernel_rfl) ?_ _
   clear cd e1
   obtain ⟨f0, f1, f2⟩ := h5'.out.1.2.1.cells
   have hqQ : Hid (q ≤ q) := by unfold Hid; omega
   have hfin : Hid (TR b s p w R (q + 1) (n + 1) m xn (.slice xa xn xc) (a ++ [x]) (W5.setCell ⟨b, 1, none⟩ (.int .i64 ((q + 1 : Nat) : Int)))) := by
    obtain ⟨r1, r2, r3, r4, r5, r6, r7, r8⟩ := hQ.out
    have hqQ' := hqQ.out
    have hs' := hQs.out
    refine ⟨h5'.out.1.set (q + 1), by rw [h5'.out.2, List.length_append]; rfl, ?_, by omega, by omega, ?_, by omega, ?_⟩
    ·rw [List.length_append]; simp; omega
    ·rw [List.length_append]; simp; omega
    ·rw [r2]; exact hst.out
   have hms : Hid (s.size - plc b (W5.setCell ⟨b, 1, none⟩ (.int .i64 ((q + 1 : Nat) : Int))) < s.size - plc b wr) := by
    have e1 := plc_eq hfin.out.1.2.1
    have e2 := hplc.out
    have e3 := hqQ.out
    have e4 := hQs.out
    unfold Hid
    rw [e1, e2]
    omega
   clear hQ hst hQx hqQ hplc hal
   go_wp2_with fail
   go_roundw
   case rel => exact ⟨q + 1, n + 1, m, xn, xc, xa, a ++ [x], rfl, by go_num, hfin⟩
   case measure => exact hms.out
  ·
   rw [if_neg (by rw [hk]; decide), if_neg (by rw [hk]; decide), if_neg (by rw [hk]; decide), if_neg (by rw [hk]; decide), if_neg (by rw [hk]; decide), if_neg (by rw [hk]; decide)] at hstep
   have hKind' : Hid (∀ W, Calls Tryz.prog 149 #[.string X] W fun e w' => e = .returned (.int .i64 6) ∧ ∃ n, w' = W.drewN n) := hKind
   obtain ⟨x, r, hl⟩ := kO56 (Or.inr hk)
   obtain ⟨hq1, hx1, hl1⟩ := at_lf hl
   have hQs : Hid (q < s.size) := hq1
   have hQx : Hid (∀ h : q < s.size, s[q] = x) := hx1
   have hst : Hid (tv m (lf s (q + 1)) (a ++ [x]) c = R) := by
    rw [hl] at hstep
    have e : (x :: r).drop 1 = lf s (q + 1) := hl1.symm
    rw [e] at hstep
    exact hstep
   clear hx1 hl1 hq1 hl
   clear hKind hk hstep
   go_wp2_with fail
   refine hRest.out.mono ?_
   rintro e w' ⟨rfl, n1, rfl⟩
   go_wp2_with fail
   refine (hKind'.out _).mono ?_
   rintro e w' ⟨rfl, n2, rfl⟩
   rw [World.drewN_drewN]
   have hT0 : Hid (TI b s q (.slice va n cp) a w (wr.drewN (n1 + n2))) := hQ.out.1.drew _
   generalize wr.drewN (n1 + n2) = W2 at *
   clear hRest hKind'
   have hQb : (q : Int) < (s.size : Int) := Int.ofNat_lt.2 hQs.out
   have hltQ : q < s.size := hQs.out
   have hsx : s[q] = x := hQx.out hltQ
   obtain ⟨xa, xn, xc, W5, e1, h5, hxn, hrA⟩ := (hT0.out.drew 1).push x hal.out
   have cd : W2.drew.cell? ⟨b, 0, none⟩ = some (.string s) ∧ W2.drew.cell? ⟨b, 1, none⟩ = some (.int .i64 (q : Int)) := ⟨hT0.out.2.1.cells.1, hT0.out.2.1.cells.2.1⟩
   have h5' : Hid (TI b s q (.slice xa xn xc) (a ++ [x]) w W5 ∧ xn = a.length + 1) := ⟨h5, hxn⟩
   clear h5 hxn hrA hT0
   go_upto_region 20 with fail
   refine Du.regionP (fun i => i == 4 || i == 8) (fun w' => w'.cell? ⟨b, 0, none⟩ = some (.string s) ∧ w'.cell? ⟨b, 1, none⟩ = some (.int .i64 (q : Int))) (by kernel_rfl) ?_
   refine RgN.n_takeWl 0 ?vad1 (by rfl) (by kernel_rfl) (by kernel_rfl) (by kernel_rfl) rfl (by rfl) ?yad1 ?rad1
   case yad1 =>
    intro w'
    go_simp
    try with_reducible rfl
   case rad1 =>
   simp only [Act.put, List.setIfInBounds_toArray, List.set_cons_zero, List.set_cons_succ]
   refine RgN.n_takeWl 1 ?vad2 (by rfl) (by kernel_rfl) (by kernel_rfl) (by kernel_rfl) rfl (by rfl) ?yad2 ?rad2
   case yad2 =>
    intro w'
    go_simp
    try with_reducible rfl
   case rad2 =>
   simp only [Act.put, List.setIfInBounds_toArray, List.set_cons_zero, List.set_cons_succ]
   refine RgN.n_takeWl 2 ?vad3 (by rfl) (by kernel_rfl) (by kernel_rfl) (by kernel_rfl) rfl (by rfl) ?yad3 ?rad3
   case yad3 =>
    intro w'
    go_simp
    try with_reducible rfl
   case rad3 =>
   simp only [Act.put, List.setIfInBounds_toArray, List.set_cons_zero, List.set_cons_succ]
   refine RgN.n_takeWl 3 ?vad4 (by rfl) (by kernel_rfl) (by kernel_rfl) (by kernel_rfl) rfl (by rfl) ?yad4 ?rad4
   case yad4 =>
    intro w'
    go_simp
    try with_reducible rfl
   case rad4 =>
   simp only [Act.put, List.setIfInBounds_toArray, List.set_cons_zero, List.set_cons_succ]
   refine RgN.n_takeWl 5 ?vad5 (by rfl) (by kernel_rfl) (by kernel_rfl) (by kernel_rfl) rfl (by rfl) ?yad5 ?rad5
   case yad5 =>
    intro w'
    go_simp
    try with_reducible rfl
   case rad5 =>
   simp only [Act.put, List.setIfInBounds_toArray, List.set_cons_zero, List.set_cons_succ]
   refine RgN.n_takeWl 6 ?vad6 (by rfl) (by kernel_rfl) (by kernel_rfl) (by kernel_rfl) rfl (by rfl) ?yad6 ?rad6
   case yad6 =>
    intro w'
    go_simp
    try with_reducible rfl
   case rad6 =>
   simp only [Act.put, List.setIfInBounds_toArray, List.set_cons_zero, List.set_cons_succ]
   refine RgN.n_takeWl 7 ?vad7 (by rfl) (by kernel_rfl) (by kernel_rfl) (by kernel_rfl) rfl (by rfl) ?yad7 ?rad7
   case yad7 =>
    intro w'
    go_simp
    try with_reducible rfl
   case rad7 =>
   simp only [Act.put, List.setIfInBounds_toArray, List.set_cons_zero, List.set_cons_succ]
   refine RgN.n_takel 4 ?vad8 (by rfl) (by kernel_rfl) (by kernel_rfl) (by kernel_rfl) (by kernel_rfl) (by rfl) cd ?yad8 ?rad8
   case yad8 =>
    intro w' hS
    obtain ⟨h0, h1⟩ := hS
    go_simp
    try with_reducible rfl
   case rad8 =>
   simp only [Act.put, List.setIfInBounds_toArray, List.set_cons_zero, List.set_cons_succ]
   refine RgN.n_takel 8 ?vad9 (by rfl) (by kernel_rfl) (by kernel_rfl) (by kernel_rfl) (by kernel_rfl) (by rfl) cd ?yad9 ?rad9
   case yad9 =>
    intro w' hS
    obtain ⟨h0, h1⟩ := hS
    go_simp
    try with_reducible rfl
   case rad9 =>
   simp only [Act.put, List.setIfInBounds_toArray, List.set_cons_zero, List.set_cons_succ]
   refine RgN.n_onel 9 (by kernel_rfl) (by rfl) (fun K hK => ?_)
   go_simp
   refine hK.out _ _ (fun h => by cases h) ?_
   clear hK K
   try simp only [Act.put, List.setIfInBounds_toArray, List.set_cons_zero, List.set_cons_succ]
   refine RgN.n_onel 10 (by kernel_rfl) (by rfl) (fun K hK => ?_)
   go_simp
   refine hK.out _ _ (fun h => by cases h) ?_
   clear hK K
   try simp only [Act.put, List.setIfInBounds_toArray, List.set_cons_zero, List.set_cons_succ]
   refine RgN.n_onel 11 (by kernel_rfl) (by rfl) (fun K hK => ?_)
   refine step_run _ (by rfl) _ _ _ _ (by rfl) _ _ (by rfl) (by rfl) _ _ e1 ?_
   refine hK.out _ _ (fun h => by cases h) ?_
   clear hK K
   try simp only [Act.put, List.setIfInBounds_toArray, List.set_cons_zero, List.set_cons_succ]
   refine RgN.n_onel 12 (by kernel_rfl) (by rfl) (fun K hK => ?_)
   go_simp
   refine hK.out _ _ (fun h => by cases h) ?_
   clear hK K
   try simp only [Act.put, List.setIfInBounds_toArray, List.set_cons_zero, List.set_cons_succ]
   refine RgN.n_done (by kernel_rfl) ?_ _
   clear cd e1
   obtain ⟨f0, f1, f2⟩ := h5'.out.1.2.1.cells
   have hqQ : Hid (q ≤ q) := by unfold Hid; omega
   have hfin : Hid (TR b s p w R (q + 1) c m xn (.slice xa xn xc) (a ++ [x]) (W5.setCell ⟨b, 1, none⟩ (.int .i64 ((q + 1 : Nat) : Int)))) := by
    obtain ⟨r1, r2, r3, r4, r5, r6, r7, r8⟩ := hQ.out
    have hqQ' := hqQ.out
    have hs' := hQs.out
    refine ⟨h5'.out.1.set (q + 1), by rw [h5'.out.2, List.length_append]; rfl, ?_, by omega, by omega, ?_, by omega, ?_⟩
    ·rw [List.length_append]; simp; omega
    ·rw [List.length_append]; simp; omega
    ·exact hst.out
   have hms : Hid (s.size - plc b (W5.setCell ⟨b, 1, none⟩ (.int .i64 ((q + 1 : Nat) : Int))) < s.size - plc b wr) := by
    have e1 := plc_eq hfin.out.1.2.1
    have e2 := hplc.out
    have e3 := hqQ.out
    have e4 := hQs.out
    unfold Hid
    rw [e1, e2]
    omega
   clear hQ hst hQx hqQ hplc hal
   go_wp2_with fail
   go_roundw
   case rel => exact ⟨q + 1, c, m, xn, xc, xa, a ++ [x], rfl, rfl, hfin⟩
   case measure => exact hms.out
end Pa
end Go.Proofs.YtkknenmpdimdbaaGreatDoor
