import Derived.Test.YtkknenmpdimdbaaGreatDoorFW39
import Derived.Test.YtkknenmpdimdbaaGreatDoorPdF
import Derived.Test.YtkknenmpdimdbaaGreatDoorFW25
import Derived.Deep.DeepCutAuto
namespace Go.Proofs.YtkknenmpdimdbaaGreatDoor
namespace RgN
open Go.RowKit
theorem n_two {P : Program} {ops : Array Oper} {Q : Exit → Act → World → Prop} {md : Region.Mode} {S : World → Prop} {N : Nat → Bool} (i j : Nat) {oi oj : Oper} {fuel : Nat} {listed : Array Bool} {a : Act} {w : World} (hr : Region.ready md ops listed = [i, j]) (hi : ops[i]? = some oi) (hj : ops[j]? = some oj)
  (h1 : ∀ K : Act → World → Prop, Go.Shut (∀ a' w', (N i = true → S w') → wpAnyN P md ops (Only Q) N S fuel (listed.setIfInBounds i true) a' w' → K a' w') → if Region.wanted oi (yielded ops a.tmps) = true then Oper.wp P oi a w K (Only Q) else K (a.put oi.dst undef) w)
  (h2 : ∀ K : Act → World → Prop, Go.Shut (∀ a' w', (N j = true → S w') → wpAnyN P md ops (Only Q) N S fuel (listed.setIfInBounds j true) a' w' → K a' w') → if Region.wanted oj (yielded ops a.tmps) = true then Oper.wp P oj a w K (Only Q) else K (a.put oj.dst undef) w) :
  wpAnyN P md ops (Only Q) N S (fuel + 1) listed a w := by
 refine ⟨fun h0 => (by rw [hr] at h0; cases h0), fun k hk => ?_⟩
 rw [hr] at hk
 simp at hk
 rcases hk with rfl | rfl
 ·exact wpOp_step hi (fun K' hK => h1 K' (fun a w h1 h2 => hK a w ⟨h1, h2⟩))
 ·exact wpOp_step hj (fun K' hK => h2 K' (fun a w h1 h2 => hK a w ⟨h1, h2⟩))
end RgN
namespace Pa
open Go.RowKit Go.Lib
open TextMath (fold lo normal check wo unhex)
open Ke (tyOk tyC utf PR)
open Du (GOwn GRow Kd append_gen KDp KDx pV pV_len xV xV_len owns_same owns_apart owns_base PX PRow DRow sd sd_len drewN_below)
set_option linter.unusedVariables false
set_option linter.unusedSimpArgs false
set_option maxRecDepth 100000
theorem pcs_len (s : ByteArray) : ∀ (n f : Nat) (b : Bool), (pcs n s f b).length ≤ n
 | 0, _, _ => Nat.le_refl _
 | n + 1, f, b => by
  rw [pcs_step]
  split
  ·have := pcs_len s n (f + endp (lf s f) + 1) (s[f + endp (lf s f)] == 43)
   simp only [List.length_cons]
   omega
  ·simp
theorem calls_ex' {P : Program} {f : FuncId} {args : Array Value} {w : World} {Q : Ending → World → Prop} (h : Calls P f args w Q) : ∃ e w', Q e w' := by
 obtain ⟨e, w', _, h, _⟩ := h []
 exact ⟨e, w', h⟩
theorem skip_at (s : ByteArray) (f t : Nat) (h : Al s f t) (hs : s.size ≤ 4096) : ∃ q : Nat, lf s q = sp (lf s f) ∧ Al s q t ∧ f ≤ q ∧ s.size - (lf s q).length = q ∧ ∀ W, Calls Tryz.prog 36 #[.string s, .int .i64 (f : Int), .int .i64 (t : Int)] W fun e w' => e = .returned (.int .i64 (q : Int)) ∧ w' = W := by
 have one : ∀ {q : Nat}, lf s q = sp (lf s f) → Al s q t → q = s.size - (sp (lf s f)).length := fun {q} h1 h2 => by
  have := congrArg List.length h1
  rw [lf_len] at this
  have := h2.1
  omega
 obtain ⟨_, _, q, _, h1, h2, h3, _⟩ := calls_ex' (rskip_any s f t default h hs)
 refine ⟨q, h1, h3, h2, by rw [lf_len]; have := h3.1; omega, fun W => (rskip_any s f t W h hs).mono ?_⟩
 rintro e w' ⟨q2, rfl, g1, g2, g3, rfl⟩
 rw [one g1 g3, ← one h1 h3]
 exact ⟨rfl, rfl⟩
theorem NX.below {s : ByteArray} {R : DRs} {B : Nat} {L : List Pc} {i : Nat} {W W' : World} {v : Value} {Ls : List PX} (h : NX s R B L i W v Ls) (hb : Below W.heap.size W W') : NX s R B L i W' v Ls := by
 rcases h with ⟨f, m, b, h1, h2, h3, h⟩ | ⟨h1, h2, h, h3⟩
 ·exact Or.inl ⟨f, m, b, h1, h2, h3, h.below hb⟩
 ·exact Or.inr ⟨h1, h2, h.below hb, h3⟩
def TlF (B : Nat) (W : World) (g nn cc k C : Nat) (L0 : List PX) (x : PX) : Prop :=
 DI B C W (.slice (some ⟨g, 0, none⟩) nn cc) L0 x ∧ L0.length = k ∧ nn = k + 1 ∧ k < 64 ∧ x.2.2.length < 8 ∧ (∀ r ∈ L0, r.2.2.length ≤ 8 ∧ ∀ q ∈ r.2.2, q.1.length ≤ 4096 ∧ q.2.length ≤ 4096) ∧ (∀ q ∈ x.2.2, q.1.length ≤ 4096 ∧ q.2.length ≤ 4096)
def PtF (k : Nat) (D0 : List (List PR)) (ps : List PR) (l : List UInt8) (R : DRs) : Prop :=
 (∃ e, prR ps l = .error e ∧ R = .error e) ∨
   (∃ x r, prR ps l = .ok (x, r) ∧ ((r.head? = some 43 ∧ ∃ m', PT m' k D0 (ps ++ [x]) (r.drop 1) R) ∨ (r.head? = some 44 ∧ nmP hxO k (D0 ++ [ps ++ [x]]) (r.drop 1) = some R) ∨ (r.head? ≠ some 43 ∧ r.head? ≠ some 44 ∧ R = .ok (D0 ++ [ps ++ [x]]))))
theorem DI.cell {B C : Nat} {W : World} {g nn cc : Nat} {L0 : List PX} {x : PX} (h1 : DI B C W (.slice (some ⟨g, 0, none⟩) nn cc) L0 x) : W.cell? ⟨g, L0.length, none⟩ = some (xw x) ∧ W.frozen? ⟨g, L0.length, none⟩ = false := by
 have hn : nn = (L0 ++ [x]).length := by
  obtain ⟨a, c, e, _⟩ := h1.1.row xV_len
  injection e
 subst hn
 have := row_cell h1.1 L0.length (by simp)
 have ex : (L0 ++ [x])[L0.length]'(by simp) = x := by simp
 rw [ex] at this
 exact this
theorem TlF.cell {B : Nat} {W : World} {g nn cc k C : Nat} {L0 : List PX} {x : PX} (h : TlF B W g nn cc k C L0 x) : W.cell? ⟨g, k, none⟩ = some (xw x) ∧ W.frozen? ⟨g, k, none⟩ = false := by
 have := h.1.cell
 rw [h.2.1] at this
 exact this
theorem TlF.below {B : Nat} {W W' : World} {g nn cc k C : Nat} {L0 : List PX} {x : PX} (h : TlF B W g nn cc k C L0 x) (hb : Below W.heap.size W W') : TlF B W' g nn cc k C L0 x := ⟨h.1.below hb, h.2⟩
theorem TlF.row {B : Nat} {W : World} {g nn cc k C : Nat} {L0 : List PX} {x : PX} (h : TlF B W g nn cc k C L0 x) : PRow W x.1 x.2.2 := by
 obtain ⟨a2, c2, f, _, _, g3⟩ := h.1.2.2.1.row pV_len
 injection f with f1 _ _
 rw [← f1] at g3
 exact g3
def PrX (s : ByteArray) (u : Nat) (Rp : RP) (sa sb : ByteArray) (c d : Int) : Prop :=
 (∃ k m : Nat, Rp = .error (k, m) ∧ k ≠ 0 ∧ c = (k : Int) ∧ d = ((s.size - m : Nat) : Int)) ∨ (∃ (x : PR) (r : List UInt8), Rp = .ok (x, r) ∧ sa = S x.1 ∧ sb = S x.2 ∧ c = 0 ∧ d = 0 ∧ r = lf s u ∧ x.1.length ≤ 4096 ∧ x.2.length ≤ 4096)
theorem prX_of {s : ByteArray} {u : Nat} {w w' : World} {Rp : RP} {e : Ending} (h : RpQ s u w Rp e w') : ∃ sa sb c d, e = .returned (.tuple #[.agg #[.string sa, .string sb], .int .i64 c, .int .i64 d]) ∧ PrX s u Rp sa sb c d ∧ Below w.heap.size w w' := by
 obtain ⟨rfl, h1, h2, h3⟩ := h
 cases Rp with
 | error e => exact ⟨_, _, _, _, rfl, Or.inl ⟨e.1, e.2, rfl, h2 e.1 e.2 rfl, rfl, rfl⟩, h3⟩
 | ok x =>
  obtain ⟨x, r⟩ := x
  obtain ⟨g1, g2, g3⟩ := h1 x r rfl
  exact ⟨_, _, _, _, rfl, Or.inr ⟨x, r, rfl, rfl, rfl, rfl, rfl, g1, g2, g3⟩, h3⟩
set_option maxHeartbeats 32000000 in
theorem rparse_any (t : List UInt8) (w : World) (R : DRs) (hl : t.length ≤ 140737488355328) (hT : RowTab w) (hR : prs hxO t = some R) :
  Calls Tryz.prog 16 #[.string (S t)] w fun e w' => PrQ5 t.length w R e w' := by
 have hst : (S t).size = t.length := S_size t
 have hsl : Hid ((S t).data.toList = t) := S_l t
 have hK : Hid (Calls Tryz.prog 34 #[.string (S t)] w fun e w' => e = .returned (Go.Proofs.YtkknenmpdimdbaaGreatDoor.chkV t) ∧ w' = w) := by
  refine (rCheck_any (S t) w (by rw [S_size]; omega) hT).mono ?_
  rintro e w' ⟨rfl, rfl⟩
  rw [S_l]
  exact ⟨rfl, rfl⟩
 obtain ⟨s, hse⟩ : ∃ s, S t = s := ⟨_, rfl⟩
 rw [hse] at hst hsl hK ⊢
 have h' : Hid (RowTab w ∧ s.size = t.length ∧ prs hxO t = some R) := ⟨hT, hst, hR⟩
 have hi0 : (0 : Int) ≤ (s.size : Int) := Int.natCast_nonneg _
 have hib : (s.size : Int) ≤ 140737488355328 := by omega
 unfold prs at hR
 clear hse hT
 by_cases hlong : 4096 < t.length
 ·rw [if_pos hlong] at hR
  injection hR with hR
  have g1 : (4096 : Int) < (s.size : Int) := by omega
  have hql : (((t.length - (t.length - 4096) : Nat) : Int)) = 4096 := by omega
  have hfin : Hid (PrQ5 t.length w R (.returned (.tuple #[.slice none 0 0, .int .i64 50, .int .i64 4096])) w) := ⟨Below.refl _ _, Or.inr ⟨50, _, hR.symm, by rw [hql]; rfl⟩⟩
  clear hK hst hR hlong hql hib
  go_enter Tryz.func16, Tryz.ntmps16
  go_wp2_with fail
  go_ret3
  exact hfin.out
 ·rw [if_neg hlong] at hR
  have g1 : ¬ (4096 : Int) < (s.size : Int) := by omega
  by_cases hu : utf t = true
  ·rw [if_neg (by simp [hu])] at hR
   have hcv : Go.Proofs.YtkknenmpdimdbaaGreatDoor.chkV t = .tuple #[.int .i64 0, .int .i64 ((check t).2 : Int)] := by
    unfold Go.Proofs.YtkknenmpdimdbaaGreatDoor.chkV
    unfold utf at hu
    rw [if_pos hu]
   rw [hcv] at hK
   generalize ((check t).2 : Int) = place at *
   by_cases hnil : t = []
   ·rw [if_pos hnil] at hR
    injection hR with hR
    have hz : s = ⟨#[]⟩ := by
     apply ByteArray.ext
     apply Array.eq_empty_of_size_eq_zero
     have : s.size = 0 := by rw [hst, hnil]; rfl
     exact this
    have hfin : Hid (PrQ5 t.length w R (.returned (.tuple #[.slice none 0 0, .int .i64 0, .int .i64 0])) w) := ⟨Below.refl _ _, Or.inl ⟨[], none, 0, [], hR.symm, rfl, ⟨GRow.nil _ _ _ _, fun r hr => (by cases hr)⟩, rfl, by decide, fun r hr => (by cases hr)⟩⟩
    subst hz
    clear hst hR hlong hcv hib hu hnil hsl h'
    go_enter Tryz.func16, Tryz.ntmps16
    go_wp2_with (go_at_call 34; refine hK.out.mono ?_; rintro e w' ⟨rfl, hww⟩; obtain rfl := hww.symm; clear hww)
    go_ret3
    exact hfin.out
   ·rw [if_neg hnil] at hR
    have hne : (s.toList == []) = false := by
     rw [Lib.toList_data, hsl.out]
     cases t with
     | nil => exact absurd rfl hnil
     | cons a l => rfl
    have hs4 : s.size ≤ 4096 := by omega
    have hPc : Hid (Calls Tryz.prog 35 #[.string s] w fun e w' => PcQ s w e w') := pieces_any s w hs4
    have hlf : lf s 0 = t := by unfold lf; rw [List.drop_zero, hsl.out]
    have hR0 : Hid (nmP hxO 65 [] (lf s 0) = some R ∧ s.size ≤ 4096 ∧ t.length = s.size ∧ RowTab w) := ⟨by rw [hlf]; exact hR, hs4, hst.symm, h'.out.1⟩
    clear hR hlong hcv hib hu hnil hsl h' hlf hs4 hst hl
    go_enter Tryz.func16, Tryz.ntmps16
    go_wp2_with (go_at_call 34; refine hK.out.mono ?_; rintro e w' ⟨rfl, hww⟩; obtain rfl := hww.symm; clear hww)
    refine hPc.out.mono ?_
    rintro e w1 ⟨pa, pc, rfl, hown, hb1⟩
    have hNb := pcs_len s (s.size + 1) 0 false
    obtain ⟨L, hL⟩ : ∃ L, pcs (s.size + 1) s 0 false = L := ⟨_, rfl⟩
    rw [hL] at hown hNb ⊢
    obtain ⟨N, hN⟩ : ∃ N, L.length = N := ⟨_, rfl⟩
    rw [hN] at hown hNb ⊢
    have hO1 : Hid (GOwn 81 3 pcV w1 (w.heap.size + 1) (.slice pa N pc) L ∧ Below w.heap.size w w1 ∧ N = L.length ∧ N ≤ s.size + 1) := ⟨hown, hb1, hN.symm, hNb⟩
    have h0 : Hid (NX s R w1.heap.size L 0 w1 (.slice none 0 0) []) := Or.inl ⟨0, s.size + 1, false, (by rw [List.drop_zero, hL]), (by omega), Nat.zero_le _, ⟨⟨GOwn.nil _ _ _ _ _, fun r hr => (by cases hr)⟩, fun _ => ⟨65, hR0.out.1⟩, fun e => (by cases e), fun r hr => (by cases hr), (by decide)⟩⟩
    have N0 : (0 : Int) ≤ (N : Int) := Int.natCast_nonneg _
    have N1 : (N : Int) ≤ 4097 := by have := hR0.out.2.1; omega
    clear hK hPc hown hb1 hNb hL hN hne
    go_wp2_with fail
    go_loopw [7, 9, 10, 11, 12, 13, 14] (fun dv iv _ _ _ _ _ wr => ∃ (i n c : Nat) (va : Option Addr) (Ls : List PX), dv = .slice va n c ∧ iv = .int .i64 (i : Int) ∧ Hid (NX s R w1.heap.size L i wr (.slice va n c) Ls ∧ Below w1.heap.size w1 wr ∧ i ≤ N ∧ n = Ls.length ∧ Ls.length ≤ 64)) (fun _ iv _ _ _ _ _ _ => N - (intOf iv).toNat)
    case atStart => exact ⟨0, 0, 0, none, [], rfl, rfl, h0.out, Below.refl _ _, Nat.zero_le _, rfl, by decide⟩
    case round =>
     obtain ⟨i, n, c, va, Ls, rfl, rfl, hQ⟩ := hrel
     clear h0
     have i0 : (0 : Int) ≤ (i : Int) := Int.natCast_nonneg _
     have n0 : (0 : Int) ≤ (n : Int) := Int.natCast_nonneg _
     have n1 : (n : Int) ≤ 64 := by have := hQ.out.2.2.2.1; have := hQ.out.2.2.2.2; omega
     by_cases hlt : i < N
     ·have i1 : (i : Int) < (N : Int) := Int.ofNat_lt.2 hlt
      have hlt' : Hid (i < N) := hlt
      obtain ⟨f, m, b, hd, hm, hf, hST⟩ | ⟨hi, _⟩ := hQ.out.1
      case inr => have := hO1.out.2.2.1; omega
      obtain ⟨hi, hLi, hal, hnx⟩ := pc_at hd hm hf
      have hB1 : Below w1.heap.size w1 wr := hQ.out.2.1
      obtain ⟨pa', pc', hpe, _, _, hrow⟩ := (GOwn.below hO1.out.1 hB1).row pcV_len
      injection hpe with hpe hpe2 hpe3
      subst hpe
      clear hpe2 hpe3
      obtain ⟨pb, po, rfl, hcell⟩ := hrow i hi
      have c0 := hcell 0 (by decide)
      have c1 := hcell 1 (by decide)
      have c2 := hcell 2 (by decide)
      rw [hLi] at c0 c1 c2
      obtain ⟨u, hu⟩ : ∃ u, f + endp (lf s f) = u := ⟨_, rfl⟩
      rw [hu] at c0 c1 c2 hal
      have c0' : wr.cell? ⟨pb, po + i * 3, none⟩ = some (.int .i64 (f : Int)) := c0
      have c1' : wr.cell? ⟨pb, po + i * 3 + 1, none⟩ = some (.int .i64 (u : Int)) := c1
      have c2' : wr.cell? ⟨pb, po + i * 3 + 2, none⟩ = some (.bool b) := c2
      obtain ⟨q, hq1, hq2, hq3, hq4, hsk⟩ := skip_at s f u hal hR0.out.2.1
      have hS : ∀ k, Hid (Calls Tryz.prog 36 #[.string s, .int .i64 (f : Int), .int .i64 (u : Int)] (wr.drewN k) fun e w' => e = .returned (.int .i64 (q : Int)) ∧ ∃ m, w' = (wr.drewN k).drewN m) := fun k => (hsk (wr.drewN k)).mono (by rintro e w' ⟨rfl, rfl⟩; exact ⟨rfl, 0, by simp [World.drewN]⟩)
      have hP1 : Hid (L.drop i = pcs m s f b ∧ s.size - f + 1 ≤ m ∧ f ≤ s.size ∧ f + endp (lf s f) = u) := ⟨hd, hm, hf, hu⟩
      have hpbl : Hid (pb < w1.heap.size) := by
       obtain ⟨pa2, pc2, hpe2, _, _, hrow1⟩ := hO1.out.1.row pcV_len
       injection hpe2 with hpe2
       obtain ⟨pb2, po2, e2, hcell1⟩ := hrow1 i hi
       rw [e2] at hpe2
       injection hpe2 with hpe2
       injection hpe2 with hpe2
       rw [hpe2]
       exact World.block_lt_of_cell? _ _ (show w1.cell? _ = some (.int .i64 (L[i].1 : Int)) from hcell1 0 (by decide))
      have hP2 : Hid (lf s q = sp (lf s f) ∧ Al s q u ∧ s.size - (lf s q).length = q) := ⟨hq1, hq2, hq4⟩
      have hP3 : Hid (ST s R w1.heap.size wr (.slice va n c) Ls f b ∧ Below w1.heap.size w1 wr ∧ n = Ls.length) := ⟨hST, hB1, hQ.out.2.2.2.1⟩
      have hP4 : Hid (wr.cell? ⟨pb, po + i * 3, none⟩ = some (.int .i64 (f : Int)) ∧ wr.cell? ⟨pb, po + i * 3 + 1, none⟩ = some (.int .i64 (u : Int)) ∧ wr.cell? ⟨pb, po + i * 3 + 2, none⟩ = some (.bool b)) := ⟨c0', c1', c2'⟩
      clear hd hm hf hST hi hLi hal hnx hB1 hrow hcell c0 c1 c2 hu hq1 hq2 hq3 hq4 hsk hQ hlt
      go_upto_region 13 with fail
      go_quiet ((go_at_call 36; exact Calls.quiet_of (hS _).out))
      obtain ⟨wq, hwq⟩ : ∃ wq, wr.drewN nq = wq := ⟨_, rfl⟩
      have bq : Below wr.heap.size wr wq := by rw [← hwq]; exact Du.drewN_below wr _ nq
      have cp1 : wq.cell? ⟨pb, po + i * 3 + 1, none⟩ = some (.int .i64 (u : Int)) := (bq.cell (World.block_lt_of_cell? _ _ c1')).trans c1'
      have cp2 : wq.cell? ⟨pb, po + i * 3 + 2, none⟩ = some (.bool b) := (bq.cell (World.block_lt_of_cell? _ _ c2')).trans c2'
      have hlw : Hid (w1.heap.size ≤ wq.heap.size ∧ Below wr.heap.size wr wq ∧ Below w1.heap.size w1 wq) := ⟨Nat.le_trans hP3.out.2.1.size bq.size, bq, hP3.out.2.1.trans (bq.mono hP3.out.2.1.size)⟩
      have hbq : Hid (Below w.heap.size w wq) := hO1.out.2.1.trans (hlw.out.2.2.mono hO1.out.2.1.size)
      rw [hwq]
      clear hwq c0' c1' c2' hS hP4 bq
      go_step
      go_step
      go_step
      go_cut [] (fun wx => wq = wx ∧ Hid (b = false → Ls.length < 64))
      case first =>
       cases b with
       | false =>
        obtain ⟨kk, hnm⟩ := hP3.out.1.2.1 rfl
        obtain ⟨k', hPT⟩ := pt_start hnm
        by_cases hL64 : Ls.length = 64
        ·have hR : R = .error (58, (sp (lf s f)).length) := by
          rcases pt_step hPT with ⟨_, hR⟩ | ⟨hw, _⟩
          ·exact hR
          ·exact absurd (Or.inl (by rw [sd_len]; exact hL64)) hw
         have g64 : ((n : Int) == 64) = true := by rw [beq_iff_eq, hP3.out.2.2, hL64]; rfl
         have hfin : Hid (PrQ5 t.length w R (.returned (.tuple #[.slice none 0 0, .int .i64 58, .int .i64 (q : Int)])) wq) := by
          refine ⟨hbq.out, Or.inr ⟨58, (sp (lf s f)).length, hR, ?_⟩⟩
          rw [hR0.out.2.2.1, ← hP2.out.1, hP2.out.2.2]
          rfl
         clear hnm hPT hR hL64 hP1 hP2 hP3 hbq hlw hO1 hi0
         go_wp2_with fail
         go_ret3
         exact hfin.out
        ·have hL65 : Ls.length < 64 := by
          have := hP3.out.1.2.2.2.2
          omega
         have g64 : ((n : Int) == 64) = false := by rw [beq_eq_false_iff_ne, hP3.out.2.2]; omega
         clear hnm hPT hL64
         go_wp2_with fail
         go_meet
         exact ⟨rfl, fun _ => hL65⟩
       | true =>
        go_wp2_with fail
        go_meet
        exact ⟨rfl, fun h => by cases h⟩
      case rest =>
       obtain ⟨hwc, h64⟩ := hcut
       subst hwc
       go_step
       go_step
       go_cut [] (fun wx => wq = wx ∧ Hid (b = true → ∀ L0 x, Ls = L0 ++ [x] → x.2.2.length < 8))
       case first =>
        cases b with
        | false =>
         go_wp2_with fail
         go_meet
         exact ⟨rfl, fun h => by cases h⟩
        | true =>
         obtain ⟨Ls0, x, C, m0, k', hLs, hDI, hL64, hx8, hPT⟩ := hP3.out.1.2.2.1 rfl
         obtain ⟨g, cc, hgv, hgB⟩ := hDI.form
         injection hgv with hgv1 hgv2 hgv3
         subst hgv1
         subst hgv3
         obtain ⟨k, hk⟩ : ∃ k, Ls0.length = k := ⟨_, rfl⟩
         obtain ⟨pn, hpn⟩ : ∃ pn, x.2.2.length = pn := ⟨_, rfl⟩
         have hDIq : DI w1.heap.size C wq (.slice (some ⟨g, 0, none⟩) n c) Ls0 x := hDI.below hlw.out.2.1
         rw [hk] at hgv2 hL64
         have cD := hDIq.cell.1
         have cDx : wq.cell? ⟨g, k, none⟩ = some (.slice x.1 pn x.2.1) := by
          rw [hk] at cD
          rw [← hpn]
          exact cD
         obtain ⟨xa, hxa⟩ : ∃ xa, x.1 = xa := ⟨_, rfl⟩
         obtain ⟨xc, hxc⟩ : ∃ xc, x.2.1 = xc := ⟨_, rfl⟩
         rw [hxa, hxc] at cDx
         subst hgv2
         have k64 : (k : Int) < 64 := by omega
         have kl : (k : Int) < (k : Int) + 1 := by omega
         have kn : (((k + 1 : Nat) : Int)) - 1 = (k : Int) := by omega
         have k0 : (0 : Int) ≤ (k : Int) := Int.natCast_nonneg _
         by_cases hp8 : pn = 8
         ·have hR : R = .error (58, (sp (lf s f)).length) := by
           rcases pt_step hPT with ⟨_, hR⟩ | ⟨hw, _⟩
           ·exact hR
           ·exact absurd (Or.inr (by rw [hpn]; exact hp8)) hw
          have g8 : ((pn : Int) == 8) = true := by rw [hp8]; rfl
          have hfin : Hid (PrQ5 t.length w R (.returned (.tuple #[.slice none 0 0, .int .i64 58, .int .i64 (q : Int)])) wq) := by
           refine ⟨hbq.out, Or.inr ⟨58, (sp (lf s f)).length, hR, ?_⟩⟩
           rw [hR0.out.2.2.1, ← hP2.out.1, hP2.out.2.2]
           rfl
          clear hLs hDI hx8 hPT hgB hpn hDIq cD hxa hxc hR hp8 hP1 hP2 hP3 hbq hlw hO1 hi0 hk h64
          go_wp2_with fail
          go_ret3
          exact hfin.out
         ·have g8 : ((pn : Int) == 8) = false := by rw [beq_eq_false_iff_ne]; omega
          have hrel : Hid (true = true → ∀ L0 x, Ls = L0 ++ [x] → x.2.2.length < 8) := fun _ L0 y e => by
           rw [hLs] at e
           have := (List.append_inj' e rfl).2
           injection this with this
           rw [← this]
           omega
          clear hLs hDI hx8 hPT hgB hpn hDIq cD hxa hxc hp8 hk h64
          go_wp2_with fail
          go_meet
          exact ⟨rfl, hrel⟩
       case rest =>
        obtain ⟨hwc, h8⟩ := hcut
        subst hwc
        go_step
        go_step
        go_cut [7] (fun dv wx => ∃ (g cc k C k' : Nat) (L0 : List PX) (x : PX), dv = .slice (some ⟨g, 0, none⟩) (k + 1) cc ∧ Hid (TlF w1.heap.size wx g (k + 1) cc k C L0 x ∧ PtF k' (sd L0) x.2.2 (lf s q) R ∧ Below w1.heap.size wq wx ∧ Below w1.heap.size w1 wx))
        case first =>
         cases b with
         | false =>
          obtain ⟨kk, hnm⟩ := hP3.out.1.2.1 rfl
          obtain ⟨k', hPT⟩ := pt_start hnm
          have hpt : PtF k' (sd Ls) [] (lf s q) R := by
           rcases pt_step hPT with ⟨hw, _⟩ | ⟨_, hpt⟩
           ·have := h64.out rfl
            rw [sd_len] at hw
            rcases hw with h | h
            ·omega
            ·cases h
           ·unfold PtF
            rw [hP2.out.1]
            exact hpt
          obtain ⟨W1, hW1⟩ : ∃ W1, wq.alloc (.cells #[] 64) = W1 := ⟨_, rfl⟩
          have ha1 : Below wq.heap.size wq W1 := by rw [← hW1]; exact (Below.refl _ _).alloc (Nat.le_refl _) _
          have hx1 : PO wq.heap.size ((some ⟨wq.heap.size, 0, none⟩, 0, []) : PX) W1 := by rw [← hW1]; exact Du.own_empty wq
          have hDLq : DL w1.heap.size wq (.slice va n c) Ls := hP3.out.1.1.below hlw.out.2.1
          obtain ⟨va2, nn, cc, w2, e1, hDI, hnn, hb2⟩ := hDLq.begin hlw.out.1 ha1 _ hx1 hP3.out.1.2.2.2.2
          obtain ⟨g, cc2, hgv, hgB⟩ := hDI.form
          injection hgv with hgv1 hgv2 hgv3
          subst hgv1
          subst hgv3
          obtain ⟨k, hk⟩ : ∃ k, Ls.length = k := ⟨_, rfl⟩
          rw [hk] at hgv2
          subst hgv2
          have e1' : (Builtin.append_ #[23, 23] 23 #[.slice va n c, .slice (some ⟨W1.heap.size, 0, none⟩) 1 1]).run Tryz.prog (W1.alloc (.cells #[.slice (some ⟨wq.heap.size, 0, none⟩) 0 0] 57)) = .ok (.slice (some ⟨g, 0, none⟩) (k + 1) cc) w2 := e1
          have hTl : Hid (TlF w1.heap.size w2 g (k + 1) cc k wq.heap.size Ls ((some ⟨wq.heap.size, 0, none⟩, 0, []) : PX) ∧ PtF k' (sd Ls) [] (lf s q) R ∧ Below w1.heap.size wq w2 ∧ Below w1.heap.size w1 w2) := ⟨⟨hDI, hk, rfl, (by rw [← hk]; exact h64.out rfl), Nat.zero_lt_succ 7, hP3.out.1.2.2.2.1, fun q hq => (by cases hq)⟩, hpt, hb2, hlw.out.2.2.trans hb2⟩
          clear hnm hPT hpt ha1 hx1 hDLq e1 hDI hnn hb2 hgB hk hP3 hlw hbq h64 h8
          go_wp2_with (at_builtin; refine Lib.wpList_append_run _ rfl _ _ _ _ rfl _ _ rfl rfl _ _ e1' ?_; clear e1')
          go_meet
          exact ⟨g, cc, k, _, k', Ls, _, rfl, hTl⟩
         | true =>
          obtain ⟨Ls0, x, C, m0, k', hLs, hDI, hL64, hx8, hPT⟩ := hP3.out.1.2.2.1 rfl
          obtain ⟨g, cc, hgv, hgB⟩ := hDI.form
          injection hgv with hgv1 hgv2 hgv3
          subst hgv1
          subst hgv3
          subst hgv2
          have hDIq : DI w1.heap.size C wq (.slice (some ⟨g, 0, none⟩) (Ls0.length + 1) c) Ls0 x := hDI.below hlw.out.2.1
          have h9 := h8.out rfl Ls0 x hLs
          have hpt : PtF k' (sd Ls0) x.2.2 (lf s q) R := by
           rcases pt_step hPT with ⟨hw, _⟩ | ⟨_, hpt⟩
           ·rw [sd_len] at hw
            omega
           ·unfold PtF
            rw [hP2.out.1]
            exact hpt
          have hsz : (∀ r ∈ Ls0, r.2.2.length ≤ 8 ∧ ∀ q ∈ r.2.2, q.1.length ≤ 4096 ∧ q.2.length ≤ 4096) ∧ (∀ q ∈ x.2.2, q.1.length ≤ 4096 ∧ q.2.length ≤ 4096) := by
           have h := hP3.out.1.2.2.2.1
           rw [hLs] at h
           exact ⟨fun r hr => h r (List.mem_append_left _ hr), (h x (by simp)).2⟩
          have hTl : Hid (TlF w1.heap.size wq g (Ls0.length + 1) c Ls0.length C Ls0 x ∧ PtF k' (sd Ls0) x.2.2 (lf s q) R ∧ Below w1.heap.size wq wq ∧ Below w1.heap.size w1 wq) := ⟨⟨hDIq, rfl, rfl, hL64, h9, hsz.1, hsz.2⟩, hpt, Below.refl _ _, hlw.out.2.2⟩
          obtain ⟨k, hk⟩ : ∃ k, Ls0.length = k := ⟨_, rfl⟩
          rw [hk] at hTl ⊢
          clear hLs hDI hx8 hPT hgB hDIq h9 hpt hsz hk hP3 hlw hbq h64 h8 hL64
          go_wp2_with fail
          go_meet
          exact ⟨g, c, k, C, k', Ls0, x, rfl, hTl⟩
        case rest =>
         obtain ⟨g, cc, k, C, k', L0, x, rfl, hAll⟩ := hcut
         have hTl : Hid (TlF w1.heap.size wc g (k + 1) cc k C L0 x) := hAll.out.1
         have hPt : Hid (PtF k' (sd L0) x.2.2 (lf s q) R) := hAll.out.2.1
         have hb2' : Hid (Below w1.heap.size wq wc ∧ Below w1.heap.size w1 wc) := hAll.out.2.2
         have cU : wc.cell? ⟨pb, po + i * 3 + 1, none⟩ = some (.int .i64 (u : Int)) := (hb2'.out.1.cell (hpbl.out)).trans cp1
         obtain ⟨w2, hw2⟩ : ∃ w2, wc = w2 := ⟨_, rfl⟩
         rw [hw2] at hTl hb2' cU ⊢
         have hkb := hTl.out.2.2.2.1
         have k64 : (k : Int) < 64 := by omega
         have kl : (k : Int) < (k : Int) + 1 := by omega
         have kn : (((k + 1 : Nat) : Int)) - 1 = (k : Int) := by omega
         have k0 : (0 : Int) ≤ (k : Int) := Int.natCast_nonneg _
         clear hAll hw2 h64 h8 hP3 hlw hbq hkb
         go_upto_region 21 with fail
         obtain ⟨cD, fD⟩ := hTl.out.cell
         obtain ⟨pn, hpn⟩ : ∃ pn, x.2.2.length = pn := ⟨_, rfl⟩
         obtain ⟨xa, hxa⟩ : ∃ xa, x.1 = xa := ⟨_, rfl⟩
         obtain ⟨xc, hxc⟩ : ∃ xc, x.2.1 = xc := ⟨_, rfl⟩
         have cD' : w2.cell? ⟨g, k, none⟩ = some (.slice xa pn xc) := by rw [← hpn, ← hxa, ← hxc]; exact cD
         have hbW : Below w.heap.size w w2 := hO1.out.2.1.trans (hb2'.out.2.mono hO1.out.2.1.size)
         have hPr : ∀ X, Below w2.heap.size w2 X → Hid (Calls Tryz.prog 37 #[.string s, .int .i64 (q : Int), .int .i64 (u : Int), .slice xa pn xc] X fun e w' => ∃ sa sb c d, e = .returned (.tuple #[.agg #[.string sa, .string sb], .int .i64 c, .int .i64 d]) ∧ PrX s u (prR x.2.2 (lf s q)) sa sb c d ∧ Below X.heap.size X w') := fun X hX => by
          have h := pair_any s q u xa xc pn x.2.2 X hP2.out.2.1 hR0.out.2.1 (by rw [← hxa]; exact (hTl.out.below hX).row) hpn (by have := hTl.out.2.2.2.2.1; omega) (fun p hp => (hTl.out.2.2.2.2.2.2 p hp).1) (rowTab_below hR0.out.2.2.2 (hbW.trans (hX.mono hbW.size)))
          exact h.mono fun e w' h => prX_of h
         have hcs : ∀ X, Below w2.heap.size w2 X → X.cell? ⟨pb, po + i * 3 + 1, none⟩ = some (.int .i64 (u : Int)) ∧ X.cell? ⟨g, k, none⟩ = some (.slice xa pn xc) := fun X hX => ⟨(hX.cell (World.block_lt_of_cell? _ _ cU)).trans cU, (hX.cell (World.block_lt_of_cell? _ _ cD')).trans cD'⟩
         have hbW' : Hid (Below w.heap.size w w2) := hbW
         have hxx : Hid (x.1 = xa ∧ x.2.2.length = pn ∧ x.2.1 = xc) := ⟨hxa, hpn, hxc⟩
         clear hbW hpn hxa hxc cD fD
         go_cut [12, 13, 14] (fun pv ev av wx => ∃ (bx : Nat) (c d : Int) (sa sb : ByteArray), pv = .pointer (some ⟨bx, 0, none⟩) ∧ ev = .int .i64 c ∧ av = .int .i64 d ∧ Hid (PrX s u (prR x.2.2 (lf s q)) sa sb c d ∧ Below w2.heap.size w2 wx ∧ w2.heap.size ≤ bx ∧ wx.cell? ⟨bx, 0, none⟩ = some (.string sa) ∧ wx.cell? ⟨bx, 1, none⟩ = some (.string sb)))
         case first =>
          have bd : Below w2.heap.size w2 w2.drew := Du.drewN_below w2 _ 1
          have cd := hcs _ bd
          refine Du.regionP (fun i => i == 6 || i == 10 || i == 16) (fun w' => w'.cell? ⟨pb, po + i * 3 + 1, none⟩ = some (.int .i64 (u : Int)) ∧ w'.cell? ⟨g, k, none⟩ = some (.slice xa pn xc)) (by kernel_rfl) ?_
          refine RgN.n_takeWl 0 ?vaa1 (by rfl) (by kernel_rfl) (by kernel_rfl) (by kernel_rfl) rfl (by rfl) ?yaa1 ?raa1
          case yaa1 =>
           intro w'
           go_simp
           try with_reducible rfl
          case raa1 =>
          simp only [Act.put, List.setIfInBounds_toArray, List.set_cons_zero, List.set_cons_succ]
          refine RgN.n_takeWl 1 ?vaa2 (by rfl) (by kernel_rfl) (by kernel_rfl) (by kernel_rfl) rfl (by rfl) ?yaa2 ?raa2
          case yaa2 =>
           intro w'
           go_simp
           try with_reducible rfl
          case raa2 =>
          simp only [Act.put, List.setIfInBounds_toArray, List.set_cons_zero, List.set_cons_succ]
          refine RgN.n_takeWl 2 ?vaa3 (by rfl) (by kernel_rfl) (by kernel_rfl) (by kernel_rfl) rfl (by rfl) ?yaa3 ?raa3
          case yaa3 =>
           intro w'
           go_simp
           try with_reducible rfl
          case raa3 =>
          simp only [Act.put, List.setIfInBounds_toArray, List.set_cons_zero, List.set_cons_succ]
          refine RgN.n_takeWl 3 ?vaa4 (by rfl) (by kernel_rfl) (by kernel_rfl) (by kernel_rfl) rfl (by rfl) ?yaa4 ?raa4
          case yaa4 =>
           intro w'
           go_simp
           try with_reducible rfl
          case raa4 =>
          simp only [Act.put, List.setIfInBounds_toArray, List.set_cons_zero, List.set_cons_succ]
          refine RgN.n_takeWl 4 ?vaa5 (by rfl) (by kernel_rfl) (by kernel_rfl) (by kernel_rfl) rfl (by rfl) ?yaa5 ?raa5
          case yaa5 =>
           intro w'
           go_simp
           try with_reducible rfl
          case raa5 =>
          simp only [Act.put, List.setIfInBounds_toArray, List.set_cons_zero, List.set_cons_succ]
          refine RgN.n_takeWl 5 ?vaa6 (by rfl) (by kernel_rfl) (by kernel_rfl) (by kernel_rfl) rfl (by rfl) ?yaa6 ?raa6
          case yaa6 =>
           intro w'
           go_simp
           try with_reducible rfl
          case raa6 =>
          simp only [Act.put, List.setIfInBounds_toArray, List.set_cons_zero, List.set_cons_succ]
          refine RgN.n_takeWl 7 ?vaa7 (by rfl) (by kernel_rfl) (by kernel_rfl) (by kernel_rfl) rfl (by rfl) ?yaa7 ?raa7
          case yaa7 =>
           intro w'
           go_simp
           try with_reducible rfl
          case raa7 =>
          simp only [Act.put, List.setIfInBounds_toArray, List.set_cons_zero, List.set_cons_succ]
          refine RgN.n_takeWl 8 ?vaa8 (by rfl) (by kernel_rfl) (by kernel_rfl) (by kernel_rfl) rfl (by rfl) ?yaa8 ?raa8
          case yaa8 =>
           intro w'
           go_simp
           try with_reducible rfl
          case raa8 =>
          simp only [Act.put, List.setIfInBounds_toArray, List.set_cons_zero, List.set_cons_succ]
          refine RgN.n_takeWl 9 ?vaa9 (by rfl) (by kernel_rfl) (by kernel_rfl) (by kernel_rfl) rfl (by rfl) ?yaa9 ?raa9
          case yaa9 =>
           intro w'
           go_simp
           try with_reducible rfl
          case raa9 =>
          simp only [Act.put, List.setIfInBounds_toArray, List.set_cons_zero, List.set_cons_succ]
          refine RgN.n_takel 6 ?vaa10 (by rfl) (by kernel_rfl) (by kernel_rfl) (by kernel_rfl) (by kernel_rfl) (by rfl) cd ?yaa10 ?raa10
          case yaa10 =>
           intro w' hS
           obtain ⟨h0, h1⟩ := hS
           go_simp
           try with_reducible rfl
          case raa10 =>
          simp only [Act.put, List.setIfInBounds_toArray, List.set_cons_zero, List.set_cons_succ]
          refine RgN.n_takel 10 ?vaa11 (by rfl) (by kernel_rfl) (by kernel_rfl) (by kernel_rfl) (by kernel_rfl) (by rfl) cd ?yaa11 ?raa11
          case yaa11 =>
           intro w' hS
           obtain ⟨h0, h1⟩ := hS
           go_simp
           try with_reducible rfl
          case raa11 =>
          simp only [Act.put, List.setIfInBounds_toArray, List.set_cons_zero, List.set_cons_succ]
          refine RgN.n_two 11 16 (by kernel_rfl) (by simp only [List.getElem?_toArray, List.getElem?_cons_zero, List.getElem?_cons_succ]; exact rfl) (by simp only [List.getElem?_toArray, List.getElem?_cons_zero, List.getElem?_cons_succ]; exact rfl) (fun K hK => ?_) (fun K hK => ?_)
          ·go_simp
           refine (hPr _ bd).out.mono ?_
           rintro e w3 ⟨sa, sb, c, d, rfl, hpx, hb3⟩
           have hpx' : Hid (PrX s u (prR x.2.2 (lf s q)) sa sb c d ∧ Below w2.heap.size w2 w3) := ⟨hpx, bd.trans (hb3.mono bd.size)⟩
           clear hpx hb3
           go_simp
           refine hK.out _ _ (fun h => by cases h) ?_
           clear hK K
           try simp only [Act.put, List.setIfInBounds_toArray, List.set_cons_zero, List.set_cons_succ]
           refine RgN.n_takeWl 12 ?vaax1 (by rfl) (by kernel_rfl) (by kernel_rfl) (by kernel_rfl) rfl (by rfl) ?yaax1 ?raax1
           case yaax1 =>
            intro w'
            go_simp
            try with_reducible rfl
           case raax1 =>
           simp only [Act.put, List.setIfInBounds_toArray, List.set_cons_zero, List.set_cons_succ]
           refine RgN.n_takeWl 13 ?vaax2 (by rfl) (by kernel_rfl) (by kernel_rfl) (by kernel_rfl) rfl (by rfl) ?yaax2 ?raax2
           case yaax2 =>
            intro w'
            go_simp
            try with_reducible rfl
           case raax2 =>
           simp only [Act.put, List.setIfInBounds_toArray, List.set_cons_zero, List.set_cons_succ]
           refine RgN.n_takeWl 14 ?vaax3 (by rfl) (by kernel_rfl) (by kernel_rfl) (by kernel_rfl) rfl (by rfl) ?yaax3 ?raax3
           case yaax3 =>
            intro w'
            go_simp
            try with_reducible rfl
           case raax3 =>
           simp only [Act.put, List.setIfInBounds_toArray, List.set_cons_zero, List.set_cons_succ]
           refine RgN.n_takeWl 15 ?vaax4 (by rfl) (by kernel_rfl) (by kernel_rfl) (by kernel_rfl) rfl (by rfl) ?yaax4 ?raax4
           case yaax4 =>
            intro w'
            go_simp
            try with_reducible rfl
           case raax4 =>
           simp only [Act.put, List.setIfInBounds_toArray, List.set_cons_zero, List.set_cons_succ]
           refine RgN.n_onel 16 (by kernel_rfl) (by rfl) (fun K hK => ?_)
           obtain ⟨w4, hw4⟩ : ∃ w4, w3.alloc (.cells #[.string ⟨#[]⟩, .string ⟨#[]⟩] 64) = w4 := ⟨_, rfl⟩
           have hb4 : Below w3.heap.size w3 w4 := by rw [← hw4]; exact (Below.refl _ _).alloc (Nat.le_refl _) _
           have hx4 : w4.heap[w3.heap.size]? = some (.cells #[.string ⟨#[]⟩, .string ⟨#[]⟩] 64 (0, 0)) := by rw [← hw4]; exact heap_alloc_new _ _
           have hB4 : Below w2.heap.size w2 w4 := hpx'.out.2.trans (hb4.mono hpx'.out.2.size)
           have cd4 := hcs _ hB4
           obtain ⟨bx, hbx⟩ : ∃ bx, w3.heap.size = bx := ⟨_, rfl⟩
           have hle : w2.heap.size ≤ bx := by rw [← hbx]; exact hpx'.out.2.size
           rw [hbx] at hx4
           go_simp
           refine hK.out _ _ (fun _ => cd4) ?_
           clear hb4 hcs
           clear hK K
           try simp only [Act.put, List.setIfInBounds_toArray, List.set_cons_zero, List.set_cons_succ]
           refine RgN.n_onel 17 (by kernel_rfl) (by rfl) (fun K hK => ?_)
           have q0 : w4.cell? ⟨bx, 0, none⟩ = some (.string ⟨#[]⟩) := by rw [cell_of_row _ _ _ _ _ _ hx4]; rfl
           have q1 : w4.cell? ⟨bx, 1, none⟩ = some (.string ⟨#[]⟩) := by rw [cell_of_row _ _ _ _ _ _ hx4]; rfl
           have q2 : w4.frozen? ⟨bx, 0, none⟩ = false := Go.frozen_of_row _ _ _ _ _ hx4
           have q3 : w4.frozen? ⟨bx, 1, none⟩ = false := Go.frozen_of_row _ _ _ _ _ hx4
           go_simp
           refine hK.out _ _ (fun h => by cases h) ?_
           clear hK K
           try simp only [Act.put, List.setIfInBounds_toArray, List.set_cons_zero, List.set_cons_succ]
           refine RgN.n_onel 18 (by kernel_rfl) (by rfl) (fun K hK => ?_)
           go_simp
           refine hK.out _ _ (fun h => by cases h) ?_
           clear hK K
           try simp only [Act.put, List.setIfInBounds_toArray, List.set_cons_zero, List.set_cons_succ]
           refine RgN.n_onel 19 (by kernel_rfl) (by rfl) (fun K hK => ?_)
           go_simp
           refine hK.out _ _ (fun h => by cases h) ?_
           clear hK K
           try simp only [Act.put, List.setIfInBounds_toArray, List.set_cons_zero, List.set_cons_succ]
           refine RgN.n_done (by kernel_rfl) ?_ _
           have h5 := Go.heap_setCell_same _ bx 1 _ _ (.string sb) (Go.heap_setCell_same w4 bx 0 _ _ (.string sa) hx4)
           have hfin : Hid (PrX s u (prR x.2.2 (lf s q)) sa sb c d ∧ Below w2.heap.size w2 ((w4.setCell ⟨bx, 0, none⟩ (.string sa)).setCell ⟨bx, 1, none⟩ (.string sb)) ∧ w2.heap.size ≤ bx ∧ ((w4.setCell ⟨bx, 0, none⟩ (.string sa)).setCell ⟨bx, 1, none⟩ (.string sb)).cell? ⟨bx, 0, none⟩ = some (.string sa) ∧ ((w4.setCell ⟨bx, 0, none⟩ (.string sa)).setCell ⟨bx, 1, none⟩ (.string sb)).cell? ⟨bx, 1, none⟩ = some (.string sb)) := ⟨hpx'.out.1, (hB4.setCell (p := ⟨bx, 0, none⟩) hle _).setCell (p := ⟨bx, 1, none⟩) hle _, hle, by rw [cell_of_row _ _ _ _ _ _ h5]; rfl, by rw [cell_of_row _ _ _ _ _ _ h5]; rfl⟩
           clear h5 q0 q1 q2 q3 hx4 hB4 hpx' hle
           go_wp2_with fail
           go_meet
           exact ⟨bx, c, d, sa, sb, rfl, rfl, rfl, hfin⟩
          ·obtain ⟨w4, hw4⟩ : ∃ w4, w2.drew.alloc (.cells #[.string ⟨#[]⟩, .string ⟨#[]⟩] 64) = w4 := ⟨_, rfl⟩
           have hb4 : Below w2.drew.heap.size w2.drew w4 := by rw [← hw4]; exact (Below.refl _ _).alloc (Nat.le_refl _) _
           have hx3 : w4.heap[w2.drew.heap.size]? = some (.cells #[.string ⟨#[]⟩, .string ⟨#[]⟩] 64 (0, 0)) := by rw [← hw4]; exact heap_alloc_new _ _
           have hB3 : Below w2.heap.size w2 w4 := bd.trans (hb4.mono bd.size)
           have cd4 := hcs _ hB3
           obtain ⟨bx, hbx⟩ : ∃ bx, w2.heap.size = bx := ⟨_, rfl⟩
           have hbx2 : w2.drew.heap.size = bx := hbx
           have hle : w2.heap.size ≤ bx := Nat.le_of_eq hbx
           rw [hbx2] at hx3
           go_simp
           refine hK.out _ _ (fun _ => cd4) ?_
           clear hb4
           clear hK K
           try simp only [Act.put, List.setIfInBounds_toArray, List.set_cons_zero, List.set_cons_succ]
           refine RgN.n_onel 11 (by kernel_rfl) (by rfl) (fun K hK => ?_)
           go_simp
           refine (hPr _ hB3).out.mono ?_
           rintro e w5 ⟨sa, sb, c, d, rfl, hpx, hb5⟩
           have hpx' : Hid (PrX s u (prR x.2.2 (lf s q)) sa sb c d ∧ Below w2.heap.size w2 w5) := ⟨hpx, hB3.trans (hb5.mono hB3.size)⟩
           have hx4 : w5.heap[bx]? = some (.cells #[.string ⟨#[]⟩, .string ⟨#[]⟩] 64 (0, 0)) := by rw [hb5.block _ (Array.getElem?_eq_some_iff.1 hx3).1]; exact hx3
           have hB4 := hpx'.out.2
           clear hpx hb5 hcs
           go_simp
           refine hK.out _ _ (fun h => by cases h) ?_
           clear hK K
           try simp only [Act.put, List.setIfInBounds_toArray, List.set_cons_zero, List.set_cons_succ]
           refine RgN.n_takeWl 12 ?vaay2 (by rfl) (by kernel_rfl) (by kernel_rfl) (by kernel_rfl) rfl (by rfl) ?yaay2 ?raay2
           case yaay2 =>
            intro w'
            go_simp
            try with_reducible rfl
           case raay2 =>
           simp only [Act.put, List.setIfInBounds_toArray, List.set_cons_zero, List.set_cons_succ]
           refine RgN.n_takeWl 13 ?vaay3 (by rfl) (by kernel_rfl) (by kernel_rfl) (by kernel_rfl) rfl (by rfl) ?yaay3 ?raay3
           case yaay3 =>
            intro w'
            go_simp
            try with_reducible rfl
           case raay3 =>
           simp only [Act.put, List.setIfInBounds_toArray, List.set_cons_zero, List.set_cons_succ]
           refine RgN.n_takeWl 14 ?vaay4 (by rfl) (by kernel_rfl) (by kernel_rfl) (by kernel_rfl) rfl (by rfl) ?yaay4 ?raay4
           case yaay4 =>
            intro w'
            go_simp
            try with_reducible rfl
           case raay4 =>
           simp only [Act.put, List.setIfInBounds_toArray, List.set_cons_zero, List.set_cons_succ]
           refine RgN.n_takeWl 15 ?vaay5 (by rfl) (by kernel_rfl) (by kernel_rfl) (by kernel_rfl) rfl (by rfl) ?yaay5 ?raay5
           case yaay5 =>
            intro w'
            go_simp
            try with_reducible rfl
           case raay5 =>
           simp only [Act.put, List.setIfInBounds_toArray, List.set_cons_zero, List.set_cons_succ]
           refine RgN.n_onel 17 (by kernel_rfl) (by rfl) (fun K hK => ?_)
           have q0 : w5.cell? ⟨bx, 0, none⟩ = some (.string ⟨#[]⟩) := by rw [cell_of_row _ _ _ _ _ _ hx4]; rfl
           have q1 : w5.cell? ⟨bx, 1, none⟩ = some (.string ⟨#[]⟩) := by rw [cell_of_row _ _ _ _ _ _ hx4]; rfl
           have q2 : w5.frozen? ⟨bx, 0, none⟩ = false := Go.frozen_of_row _ _ _ _ _ hx4
           have q3 : w5.frozen? ⟨bx, 1, none⟩ = false := Go.frozen_of_row _ _ _ _ _ hx4
           go_simp
           refine hK.out _ _ (fun h => by cases h) ?_
           clear hK K
           try simp only [Act.put, List.setIfInBounds_toArray, List.set_cons_zero, List.set_cons_succ]
           refine RgN.n_onel 18 (by kernel_rfl) (by rfl) (fun K hK => ?_)
           go_simp
           refine hK.out _ _ (fun h => by cases h) ?_
           clear hK K
           try simp only [Act.put, List.setIfInBounds_toArray, List.set_cons_zero, List.set_cons_succ]
           refine RgN.n_onel 19 (by kernel_rfl) (by rfl) (fun K hK => ?_)
           go_simp
           refine hK.out _ _ (fun h => by cases h) ?_
           clear hK K
           try simp only [Act.put, List.setIfInBounds_toArray, List.set_cons_zero, List.set_cons_succ]
           refine RgN.n_done (by kernel_rfl) ?_ _
           have h5 := Go.heap_setCell_same _ bx 1 _ _ (.string sb) (Go.heap_setCell_same w5 bx 0 _ _ (.string sa) hx4)
           have hfin : Hid (PrX s u (prR x.2.2 (lf s q)) sa sb c d ∧ Below w2.heap.size w2 ((w5.setCell ⟨bx, 0, none⟩ (.string sa)).setCell ⟨bx, 1, none⟩ (.string sb)) ∧ w2.heap.size ≤ bx ∧ ((w5.setCell ⟨bx, 0, none⟩ (.string sa)).setCell ⟨bx, 1, none⟩ (.string sb)).cell? ⟨bx, 0, none⟩ = some (.string sa) ∧ ((w5.setCell ⟨bx, 0, none⟩ (.string sa)).setCell ⟨bx, 1, none⟩ (.string sb)).cell? ⟨bx, 1, none⟩ = some (.string sb)) := ⟨hpx'.out.1, (hB4.setCell (p := ⟨bx, 0, none⟩) hle _).setCell (p := ⟨bx, 1, none⟩) hle _, hle, by rw [cell_of_row _ _ _ _ _ _ h5]; rfl, by rw [cell_of_row _ _ _ _ _ _ h5]; rfl⟩
           clear h5 q0 q1 q2 q3 hx4 hB4 hpx' hle
           go_wp2_with fail
           go_meet
           exact ⟨bx, c, d, sa, sb, rfl, rfl, rfl, hfin⟩
         case rest =>
          obtain ⟨bx, c1, d1, sa, sb, rfl, rfl, rfl, hX⟩ := hcut
          clear hPr hcs cD' cU
          rcases hX.out.1 with ⟨ek, em, hRp, hk0, hc, hd⟩ | ⟨y, r, hRp, hsa, hsb, hc, hd, hr, hy1, hy2⟩
          ·subst hc hd
           have g0 : ((ek : Int) != 0) = true := by rw [bne_iff_ne]; omega
           have hRe : R = .error (ek, em) := by
            rcases hPt.out with ⟨e, h1, h2⟩ | ⟨x', r', h1, _⟩
            ·rw [hRp] at h1
             injection h1 with h1
             rw [h2, ← h1]
            ·rw [hRp] at h1
             cases h1
           have hfin : Hid (PrQ5 t.length w R (.returned (.tuple #[.slice none 0 0, .int .i64 (ek : Int), .int .i64 ((s.size - em : Nat) : Int)])) wc) := ⟨hbW'.out.trans (hX.out.2.1.mono hbW'.out.size), Or.inr ⟨ek, em, hRe, by rw [hR0.out.2.2.1]⟩⟩
           clear hX hRp hk0 hRe hPt hTl hbW' hb2' hP1 hP2 hO1
           generalize ((s.size - em : Nat) : Int) = pl at *
           generalize (ek : Int) = kk at *
           go_wp2_with fail
           go_ret3
           exact hfin.out
          ·subst hc hd
           have hT2 := hTl.out.below hX.out.2.1
           have bd : Below wc.heap.size wc wc.drew := Du.drewN_below wc _ 1
           have hb0 := hT2.cell
           have hx8 := hTl.out.2.2.2.2.1
           obtain ⟨va3, m3, c3, w5, e5, ⟨k5c, k5f⟩, hn5, hb5, hD5⟩ := (hT2.below bd).1.push y.1 y.2 (by omega)
           have cd : wc.drew.cell? ⟨g, k, none⟩ = some (.slice xa pn xc) ∧ wc.drew.cell? ⟨bx, 0, none⟩ = some (.string sa) ∧ wc.drew.cell? ⟨bx, 1, none⟩ = some (.string sb) := by
            refine ⟨?_, hX.out.2.2.2.1, hX.out.2.2.2.2⟩
            rw [← hxx.out.1, ← hxx.out.2.1, ← hxx.out.2.2]
            exact hb0.1
           have ba : Below wc.drew.heap.size wc.drew (wc.drew.alloc (.cells #[.string sa, .string sb] 64)) := (Below.refl _ _).alloc (Nat.le_refl _) _
           have cdA : (wc.drew.alloc (.cells #[.string sa, .string sb] 64)).cell? ⟨g, k, none⟩ = some (.slice xa pn xc) ∧ (wc.drew.alloc (.cells #[.string sa, .string sb] 64)).cell? ⟨bx, 0, none⟩ = some (.string sa) ∧ (wc.drew.alloc (.cells #[.string sa, .string sb] 64)).cell? ⟨bx, 1, none⟩ = some (.string sb) := ⟨(ba.cell (World.block_lt_of_cell? _ _ cd.1)).trans cd.1, (ba.cell (World.block_lt_of_cell? _ _ cd.2.1)).trans cd.2.1, (ba.cell (World.block_lt_of_cell? _ _ cd.2.2)).trans cd.2.2⟩
           rw [hTl.out.2.1] at k5c k5f hb5 hD5
           have e5' : (Builtin.append_ #[57, 57] 57 #[.slice xa pn xc, .slice (some ⟨wc.drew.heap.size, 0, none⟩) 1 1]).run Tryz.prog (wc.drew.alloc (.cells #[.string sa, .string sb] 64)) = .ok (.slice va3 m3 c3) w5 := by
            rw [← hxx.out.1, ← hxx.out.2.1, ← hxx.out.2.2, hsa, hsb]
            exact e5
           have hfin : Hid (NX s R w1.heap.size L (i + 1) (w5.setCell ⟨g, k, none⟩ (.slice va3 m3 c3)) (.slice (some ⟨g, 0, none⟩) (k + 1) cc) (L0 ++ [((va3, c3, x.2.2 ++ [(y.1, y.2)]) : PX)]) ∧ Below w1.heap.size w1 (w5.setCell ⟨g, k, none⟩ (.slice va3 m3 c3)) ∧ i + 1 ≤ N ∧ k + 1 = (L0 ++ [((va3, c3, x.2.2 ++ [(y.1, y.2)]) : PX)]).length ∧ (L0 ++ [((va3, c3, x.2.2 ++ [(y.1, y.2)]) : PX)]).length ≤ 64) := by
            have hll := hTl.out.2.1
            have hk64 := hTl.out.2.2.2.1
            refine ⟨?_, ?_, by have := hlt'.out; omega, by simp; omega, by simp; omega⟩
            ·refine nx_step hP1.out.1 hP1.out.2.1 hP1.out.2.2.1 hD5 (by rw [hll]; exact hk64) hx8 hTl.out.2.2.2.2.2.1 hTl.out.2.2.2.2.2.2 ⟨hy1, hy2⟩ (r := r) (k := k') (by rw [hr, hP1.out.2.2.2]) ?_
             rcases hPt.out with ⟨e, h1, _⟩ | ⟨x', r', h1, h2⟩
             ·rw [hRp] at h1
              cases h1
             ·rw [hRp] at h1
              injection h1 with h1
              injection h1 with h1 h3
              subst h1 h3
              exact h2
            ·have hww : Below w1.heap.size w1 wc := hb2'.out.2.trans (hX.out.2.1.mono hb2'.out.2.size)
             exact (hww.trans (bd.mono hww.size)).trans hb5
           have k5f' := k5f
           clear hsa hsb hr hy1 hy2 hRp hT2 bd hb0 hx8 e5 hn5 hb5 hD5 ba hPt hTl hxx hX hbW' hb2' hP1 hP2 hO1
           go_upto_region 24 with fail
           refine Du.regionP (fun i => i == 5 || i == 6 || i == 7) (fun w' => w'.cell? ⟨g, k, none⟩ = some (.slice xa pn xc) ∧ w'.cell? ⟨bx, 0, none⟩ = some (.string sa) ∧ w'.cell? ⟨bx, 1, none⟩ = some (.string sb)) (by kernel_rfl) ?_
           refine RgN.n_takeWl 0 ?vaaz1 (by rfl) (by kernel_rfl) (by kernel_rfl) (by kernel_rfl) rfl (by rfl) ?yaaz1 ?raaz1
           case yaaz1 =>
            intro w'
            go_simp
            try with_reducible rfl
           case raaz1 =>
           simp only [Act.put, List.setIfInBounds_toArray, List.set_cons_zero, List.set_cons_succ]
           refine RgN.n_takeWl 1 ?vaaz2 (by rfl) (by kernel_rfl) (by kernel_rfl) (by kernel_rfl) rfl (by rfl) ?yaaz2 ?raaz2
           case yaaz2 =>
            intro w'
            go_simp
            try with_reducible rfl
           case raaz2 =>
           simp only [Act.put, List.setIfInBounds_toArray, List.set_cons_zero, List.set_cons_succ]
           refine RgN.n_takeWl 2 ?vaaz3 (by rfl) (by kernel_rfl) (by kernel_rfl) (by kernel_rfl) rfl (by rfl) ?yaaz3 ?raaz3
           case yaaz3 =>
            intro w'
            go_simp
            try with_reducible rfl
           case raaz3 =>
           simp only [Act.put, List.setIfInBounds_toArray, List.set_cons_zero, List.set_cons_succ]
           refine RgN.n_takeWl 3 ?vaaz4 (by rfl) (by kernel_rfl) (by kernel_rfl) (by kernel_rfl) rfl (by rfl) ?yaaz4 ?raaz4
           case yaaz4 =>
            intro w'
            go_simp
            try with_reducible rfl
           case raaz4 =>
           simp only [Act.put, List.setIfInBounds_toArray, List.set_cons_zero, List.set_cons_succ]
           refine RgN.n_takeWl 4 ?vaaz5 (by rfl) (by kernel_rfl) (by kernel_rfl) (by kernel_rfl) rfl (by rfl) ?yaaz5 ?raaz5
           case yaaz5 =>
            intro w'
            go_simp
            try with_reducible rfl
           case raaz5 =>
           simp only [Act.put, List.setIfInBounds_toArray, List.set_cons_zero, List.set_cons_succ]
           refine RgN.n_takel 5 ?vaaz6 (by rfl) (by kernel_rfl) (by kernel_rfl) (by kernel_rfl) (by kernel_rfl) (by rfl) cd ?yaaz6 ?raaz6
           case yaaz6 =>
            intro w' hS
            obtain ⟨h0, h1, h2⟩ := hS
            go_simp
            try with_reducible rfl
           case raaz6 =>
           simp only [Act.put, List.setIfInBounds_toArray, List.set_cons_zero, List.set_cons_succ]
           refine RgN.n_takel 6 ?vaaz7 (by rfl) (by kernel_rfl) (by kernel_rfl) (by kernel_rfl) (by kernel_rfl) (by rfl) cd ?yaaz7 ?raaz7
           case yaaz7 =>
            intro w' hS
            obtain ⟨h0, h1, h2⟩ := hS
            go_simp
            try with_reducible rfl
           case raaz7 =>
           simp only [Act.put, List.setIfInBounds_toArray, List.set_cons_zero, List.set_cons_succ]
           refine RgN.n_onel 7 (by kernel_rfl) (by rfl) (fun K hK => ?_)
           go_simp
           refine hK.out _ _ (fun _ => cdA) ?_
           clear hK K
           try simp only [Act.put, List.setIfInBounds_toArray, List.set_cons_zero, List.set_cons_succ]
           refine RgN.n_onel 8 (by kernel_rfl) (by rfl) (fun K hK => ?_)
           refine step_run _ (by rfl) _ _ _ _ (by rfl) _ _ (by rfl) (by rfl) _ _ e5' ?_
           refine hK.out _ _ (fun h => by cases h) ?_
           clear hK K
           try simp only [Act.put, List.setIfInBounds_toArray, List.set_cons_zero, List.set_cons_succ]
           refine RgN.n_onel 9 (by kernel_rfl) (by rfl) (fun K hK => ?_)
           go_simp
           refine hK.out _ _ (fun h => by cases h) ?_
           clear hK K
           try simp only [Act.put, List.setIfInBounds_toArray, List.set_cons_zero, List.set_cons_succ]
           refine RgN.n_onel 10 (by kernel_rfl) (by rfl) (fun K hK => ?_)
           go_simp
           refine hK.out _ _ (fun h => by cases h) ?_
           clear hK K
           try simp only [Act.put, List.setIfInBounds_toArray, List.set_cons_zero, List.set_cons_succ]
           refine RgN.n_done (by kernel_rfl) ?_ _
           clear cd cdA e5' k5c k5f k5f'
           go_wp2_with fail
           have i1' : i < N := hlt'.out
           refine ⟨⟨i + 1, k + 1, cc, some ⟨g, 0, none⟩, _, rfl, by go_num, hfin⟩, ?_⟩
           simp [intOf]
           omega
     ·
      have i1 : ¬ (i : Int) < (N : Int) := by omega
      have hfin : Hid (PrQ5 t.length w R (.returned (.tuple #[.slice va n c, .int .i64 0, .int .i64 0])) wr) := by
       have hiN : i = N := by have := hQ.out.2.2.1; omega
       have hbw : Below w.heap.size w wr := hO1.out.2.1.trans (hQ.out.2.1.mono hO1.out.2.1.size)
       rcases hQ.out.1 with ⟨f, m, b, hd, hm, hf, _⟩ | ⟨_, hRe, hDL, hsz, h64⟩
       ·obtain ⟨hi, _⟩ := pc_at hd hm hf
        have := hO1.out.2.2.1
        omega
       ·obtain ⟨va', c', e, hdr⟩ := hDL.drow
        injection e with e1 e2 e3
        subst e1
        refine ⟨hbw, Or.inl ⟨sd Ls, va, c, Ls, hRe, by rw [sd_len, ← e2], hdr, rfl, by rw [sd_len]; exact h64, fun r hr => ?_⟩⟩
        obtain ⟨r', h1, rfl⟩ := List.mem_map.1 hr
        exact hsz r' h1
      clear hQ hlt
      go_wp2_with fail
      go_ret3
      exact hfin.out
  ·have hu' : utf t = false := by simpa using hu
   rw [if_pos hu'] at hR
   injection hR with hR
   have hcv : Go.Proofs.YtkknenmpdimdbaaGreatDoor.chkV t = .tuple #[.int .i64 10, .int .i64 ((check t).2 : Int)] := by
    unfold Go.Proofs.YtkknenmpdimdbaaGreatDoor.chkV
    unfold utf at hu
    rw [if_neg hu]
   rw [hcv] at hK
   have hql : (((t.length - (t.length - (check t).2) : Nat) : Int)) = ((check t).2 : Int) := by have := chk_le t; omega
   have hfin : Hid (PrQ5 t.length w R (.returned (.tuple #[.slice none 0 0, .int .i64 51, .int .i64 ((check t).2 : Int)])) w) := ⟨Below.refl _ _, Or.inr ⟨51, _, hR.symm, by rw [hql]; rfl⟩⟩
   generalize ((check t).2 : Int) = place at *
   clear hst hR hlong hcv hib hu hu' hsl h' hl hql
   go_enter Tryz.func16, Tryz.ntmps16
   go_wp2_with (go_at_call 34; refine hK.out.mono ?_; rintro e w' ⟨rfl, hww⟩; obtain rfl := hww.symm; clear hww)
   go_ret3
   exact hfin.out
end Pa
end Go.Proofs.YtkknenmpdimdbaaGreatDoor
