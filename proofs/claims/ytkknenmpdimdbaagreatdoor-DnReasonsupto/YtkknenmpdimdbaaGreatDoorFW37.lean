import Derived.Test.YtkknenmpdimdbaaGreatDoorPdC
import Derived.Test.YtkknenmpdimdbaaGreatDoorFW18
namespace Go.Proofs.YtkknenmpdimdbaaGreatDoor
namespace Pa
open Go.RowKit
open TextMath (fold lo normal check wo unhex)
open Du (GOwn GRow Kd append_gen)
open Bl (bV bV_len bV_flat KDb g_new)
open Ke (among_any)
set_option linter.unusedVariables false
set_option linter.unusedSimpArgs false
set_option maxRecDepth 100000
def Bo (w W : World) (v : Value) (a : List UInt8) : Prop := GOwn 5 1 bV W w.heap.size v a ∧ Below w.heap.size w W
variable {w W W' : World} {v : Value} {a : List UInt8} {s : ByteArray} {p t : Nat}
theorem Bo.drew (h : Bo w W v a) (n : Nat) : Bo w (W.drewN n) v a := ⟨gown_apart h.1 (fun _ _ _ => rfl), h.2.trans (Du.drewN_below _ _ _)⟩
theorem Bo.form (h : Bo w W v a) : ∃ va c, v = .slice va a.length c ∧ a.length ≤ c := by
 obtain ⟨va, c, e, h1, _⟩ := h.1.row bV_len
 exact ⟨va, c, e, h1⟩
theorem Bo.push (h : Bo w W v a) (x : UInt8) (ha : a.length ≤ 4096) :
  ∃ va n c w', (Builtin.append_ #[87, 87] 87 #[v, .slice (some ⟨W.heap.size, 0, none⟩) 1 1]).run Tryz.prog (W.alloc (.cells #[.int .u8 (x.toNat : Int)] 5)) = .ok (.slice va n c) w' ∧ Bo w w' (.slice va n c) (a ++ [x]) ∧ n = a.length + 1 := by
 have hb : Below W.heap.size W (W.alloc (.cells #[.int .u8 (x.toNat : Int)] 5)) := (Below.refl _ _).alloc (Nat.le_refl _) _
 have hsz : w.heap.size ≤ W.heap.size := h.2.size
 obtain ⟨v', w', e1, o1, g1, b1⟩ := append_gen KDb (W.alloc (.cells #[.int .u8 (x.toNat : Int)] 5)) w.heap.size v a [x] (some ⟨W.heap.size, 0, none⟩) 1 1 (h.1.below hb) (g_new bV bV_len W 5 [x]) rfl (Nat.le_trans hsz hb.size) (by simp; omega)
 have h1 : Bo w w' v' (a ++ [x]) := ⟨o1, h.2.trans ((hb.mono hsz).trans b1)⟩
 obtain ⟨va, c, rfl, _⟩ := h1.form
 exact ⟨va, _, c, w', e1, h1, by simp⟩
theorem Bo.front (h : Bo w W v a) (k : Nat) (hk : k ≤ a.length) (va : Option Addr) (n c : Nat) (hv : v = .slice va n c) : (convert 87 9 (.slice va k c)).run Tryz.prog W = .ok (.string (S (a.take k))) W := by
 subst hv
 have ho : W.ownsRow w.heap.size 5 1 (.slice va n c) a.length (bv a) := by have := h.1; unfold GOwn at this; rwa [bV_flat] at this
 have hp : W.ownsRow w.heap.size 5 1 (.slice va k c) k (bv (a.take k)) := by
  rcases ho with ⟨h1, ⟨e, h2⟩ | ⟨g, cap, cur, e, h3, h4, h5, h6, h7, h8⟩⟩
  ·injection e with e1 e2 e3
   subst e1 e3
   have hk0 : k = 0 := by omega
   subst hk0
   exact ⟨by simp [bv], Or.inl ⟨rfl, rfl⟩⟩
  ·injection e with e1 e2 e3
   subst e1 e3
   refine ⟨by simp [bv, hk], Or.inr ⟨g, c, cur, rfl, h3, h4, by omega, h6, h7, ?_⟩⟩
   rw [Nat.mul_one] at h8 ⊢
   have e : bv (a.take k) = (bv a).take k := by simp [bv]
   rw [e, ← h8, List.take_take, Nat.min_eq_left hk]
 exact own_back_any W w.heap.size 87 9 5 (.slice va k c) k (a.take k) Tryz.underlying87 Tryz.underlying5 Tryz.underlying9 hp
def PlI (s : ByteArray) (p t : Nat) (R : VR) (w W : World) (i : Nat) (v : Value) (a : List UInt8) (c : Nat) : Prop :=
 Bo w W v a ∧ Al s i t ∧ p ≤ i ∧ a.length ≤ i - p ∧ c ≤ a.length ∧ tv (s.size - i + 1) (lf s i) a c = R
theorem tv_len {s : ByteArray} {i n : Nat} (h : i < s.size) (k : Nat) (hk : 1 ≤ k) (a : List UInt8) (c : Nat) (hn : n = s.size - i) : tv n ((lf s i).drop k) a c = tv (s.size - (i + k) + 1) (lf s (i + k)) a c := by
 rw [lf_drop]
 exact tv_fuel _ _ _ _ _ (by rw [lf_len]; omega) (by rw [lf_len]; omega)
theorem PlI.next {R : VR} {i : Nat} {c : Nat} {k : Nat} {x : UInt8} {c' : Nat} {v' : Value} (h : PlI s p t R w W i v a c) (hi : i < s.size) (hk : 1 ≤ k) (ha : Al s (i + k) t) (hb : Bo w W' v' (a ++ [x])) (hc : c' ≤ a.length + 1)
  (he : tv (s.size - i + 1) (lf s i) a c = tv (s.size - i) ((lf s i).drop k) (a ++ [x]) c') : PlI s p t R w W' (i + k) v' (a ++ [x]) c' := by
 obtain ⟨h1, h2, h3, h4, h5, h6⟩ := h
 refine ⟨hb, ha, by omega, by rw [List.length_append, List.length_singleton]; omega, by rw [List.length_append, List.length_singleton]; exact hc, ?_⟩
 rw [← tv_len hi k hk _ _ rfl, ← he, h6]
theorem bar_eq (x : UInt8) : bar x = (x == 0 || [34, 59, 60, 62].contains x) := by
 have key : ∀ n : Fin 256, bar (UInt8.ofNat n.val) = (UInt8.ofNat n.val == 0 || [34, 59, 60, 62].contains (UInt8.ofNat n.val)) := by decide +kernel
 have h2 := key ⟨x.toNat, x.toNat_lt⟩
 rw [UInt8.ofNat_toNat] at h2
 exact h2
theorem hb_int {y z : UInt8} (h1 : hd y = true) (h2 : hd z = true) : 16 * hxI y + hxI z = ((hb y z).toNat : Int) ∧ 0 ≤ 16 * hxI y + hxI z ∧ 16 * hxI y + hxI z ≤ 255 := by
 unfold hd at h1 h2
 unfold hxI hb
 have q1 := hxI_lt y
 have q2 := hxI_lt z
 unfold hxI at q1 q2
 cases hy : wo y with
 | none => rw [hy] at h1; cases h1
 | some m => cases hz : wo z with
  | none => rw [hz] at h2; cases h2
  | some n =>
   rw [hy] at q1
   rw [hz] at q2
   dsimp only at q1 q2 ⊢
   simp only [Option.getD_some]
   rw [UInt8.toNat_ofNat']
   omega
set_option maxHeartbeats 16000000 in
theorem plain_any (s : ByteArray) (p t : Nat) (w : World) (h : Al s p t) (hs : s.size ≤ 4096) :
  Calls Tryz.prog 66 #[.string s, .int .i64 (p : Int), .int .i64 (t : Int)] w fun e w' => RvQ s t w (tv ((lf s p).length + 1) (lf s p) [] 0) e w' := by
 have hl := h.le
 have h' : Hid (p ≤ t ∧ t ≤ s.size ∧ s.size ≤ 4096) := ⟨hl.1, hl.2, hs⟩
 obtain ⟨R, hR⟩ : ∃ R, tv ((lf s p).length + 1) (lf s p) [] 0 = R := ⟨_, rfl⟩
 rw [hR]
 have h0 : Hid (PlI s p t R w w p (.slice none 0 0) [] 0) := ⟨⟨GOwn.nil _ _ _ _ _, Below.refl _ _⟩, h, Nat.le_refl _, Nat.zero_le _, Nat.le_refl _, by rw [← hR, lf_len]⟩
 have p0 : (0 : Int) ≤ (p : Int) := Int.natCast_nonneg _
 have t0 : (0 : Int) ≤ (t : Int) := Int.natCast_nonneg _
 have tb' : (t : Int) ≤ 4096 := by omega
 have hH : ∀ c W, Hid (Calls Tryz.prog 95 #[.int .u8 (UInt8.toNat c : Int)] W fun e w' => e = .returned (.int .i64 (hxI c)) ∧ w' = W) := fun c W => hex_any c W
 have hA1 : ∀ c W, Hid (Calls Tryz.prog 73 #[.int .u8 (UInt8.toNat c : Int), .string ⟨#[92, 34, 43, 44, 59, 60, 62, 35, 61, 32]⟩] W fun e w' => e = .returned (.bool (es c)) ∧ w' = W) := fun c W => among_any c ⟨#[92, 34, 43, 44, 59, 60, 62, 35, 61, 32]⟩ W (by decide)
 have hA2 : ∀ c W, Hid (Calls Tryz.prog 73 #[.int .u8 (UInt8.toNat c : Int), .string ⟨#[34, 59, 60, 62]⟩] W fun e w' => e = .returned (.bool ([34, 59, 60, 62].contains c)) ∧ w' = W) := fun c W => among_any c ⟨#[34, 59, 60, 62]⟩ W (by decide)
 clear h hl hs hR
 go_enter Tryz.func66, Tryz.ntmps66
 go_wp2_with fail
 go_loopw [9, 10, 11, 12, 30, 57, 102, 106] (fun bv kv iv _ _ _ _ _ wr => ∃ (i c n cp : Nat) (va : Option Addr) (a : List UInt8), iv = .int .i64 (i : Int) ∧ kv = .int .i64 (c : Int) ∧ bv = .slice va n cp ∧ Hid (PlI s p t R w wr i (.slice va n cp) a c ∧ n = a.length ∧ i ≤ t)) (fun _ _ iv _ _ _ _ _ _ => t - (intOf iv).toNat)
 case atStart => exact ⟨p, 0, 0, 0, none, [], rfl, rfl, rfl, h0.out, rfl, h'.out.1⟩
 case round =>
  obtain ⟨i, c, n, cp, va, a, rfl, rfl, rfl, hQ⟩ := hrel
  clear h0
  have i0 : (0 : Int) ≤ (i : Int) := Int.natCast_nonneg _
  have it : (i : Int) ≤ (t : Int) := by have := hQ.out.2.2; omega
  have n0 : (0 : Int) ≤ (n : Int) := Int.natCast_nonneg _
  have hal : Hid (a.length ≤ 4096) := by unfold Hid; have := hQ.out.1.2.2.2.1; have := hQ.out.2.2; have := h'.out; omega
  have nb : (n : Int) ≤ 4096 := by have := hQ.out.2.1; have := hal.out; omega
  by_cases hlt : i < t
  ·have i1 : (i : Int) < (t : Int) := Int.ofNat_lt.2 hlt
   have his : i < s.size := by have := h'.out.2.1; omega
   have i2 : (i : Int) < (s.size : Int) := Int.ofNat_lt.2 his
   have hcons := lf_cons his
   have hst := tv_step (s.size - i) (lf s i) a c
   obtain ⟨_, hns⟩ := hQ.out.1.2.1.lt hlt
   obtain ⟨x, hx⟩ : ∃ x, s[i] = x := ⟨_, rfl⟩
   rw [hx] at hcons hns
   have hAst : Hid (x ≠ 92 → Al s (i + 1) t) := fun e => hQ.out.1.2.1.step his (by rw [hx]; exact hns) (by rw [hx]; exact e)
   have hAes : Hid (x = 92 → i + 1 < s.size → Al s (i + 2) t ∧ i + 2 ≤ t) := fun e h => hQ.out.1.2.1.esc h (by rw [hx]; exact e)
   have hlt' : Hid (i < t) := hlt
   have his' : Hid (i < s.size) := his
   have hcons' : Hid (lf s i = x :: lf s (i + 1)) := hcons
   have hst' : Hid (tv (s.size - i + 1) (lf s i) a c = _) := hst
   have hns' : Hid (¬ (x = 44 ∨ x = 43)) := hns
   clear hcons hst hns
   have herr : Hid (∀ k, k ≠ 0 → tv (s.size - i + 1) (lf s i) a c = .error (k, (lf s i).length) → RvQ s t w R (.returned (.tuple #[.string ⟨#[]⟩, .int .i64 (k : Int), .int .i64 (i : Int)])) wr) := fun k hk he => by
    have h1 := hQ.out.1.2.2.2.2.2
    rw [he] at h1
    have e : s.size - (lf s i).length = i := by rw [lf_len]; have := his'.out; omega
    subst h1
    refine ⟨?_, fun x r h => (by cases h), fun j m h => (by injection h with h; injection h with h1 h2; omega), hQ.out.1.1.2⟩
    show _ = Ending.returned (.tuple #[.string ⟨#[]⟩, .int .i64 (k : Int), .int .i64 ((s.size - (lf s i).length : Nat) : Int)])
    rw [e]
   have hnx : Hid (∀ k b c' v' W', 1 ≤ k → Al s (i + k) t → Bo w W' v' (a ++ [b]) → c' ≤ a.length + 1 → tv (s.size - i + 1) (lf s i) a c = tv (s.size - i) ((lf s i).drop k) (a ++ [b]) c' → PlI s p t R w W' (i + k) v' (a ++ [b]) c') := fun k b c' v' W' hk ha hb hc he => hQ.out.1.next his hk ha hb hc he
   have hBo : Hid (Bo w wr (.slice va n cp) a) := hQ.out.1.1
   have hcn : Hid (n = a.length ∧ c ≤ a.length) := ⟨hQ.out.2.1, hQ.out.1.2.2.2.2.1⟩
   clear hQ
   by_cases h92 : x = 92
   ·have g92 : ((x.toNat : Int) == 92) = true := by rw [h92]; rfl
    have h92' : Hid (x = 92) := h92
    by_cases hi1 : i + 1 < s.size
    ·obtain ⟨hA2s, hi2t⟩ := hAes.out h92 hi1
     have hA2' : Hid (Al s (i + 2) t ∧ i + 2 ≤ t) := ⟨hA2s, hi2t⟩
     have j1 : (i : Int) + 1 < (t : Int) := by omega
     have j2 : (i : Int) + 1 < (s.size : Int) := by omega
     obtain ⟨y, hy⟩ : ∃ y, s[i + 1] = y := ⟨_, rfl⟩
     have hcy : Hid (lf s i = 92 :: y :: lf s (i + 2)) := by
      unfold Hid
      rw [hcons'.out, lf_cons hi1, hy, h92]
     have hAy := hA1 y wr
     have hi1' : Hid (i + 1 < s.size) := hi1
     by_cases hes : es y = true
     ·rw [hes] at hAy
      have hko : Hid (kO (lf s i) = 4) := by unfold Hid; rw [hcy.out]; unfold kO kB; simp [hes]
      have hAy' := hAy
      clear hH hA1 hA2 h92 hes hAy
      obtain ⟨xa, xn, xc, W5, e1, h5, hxn⟩ := hBo.out.push y hal.out
      have hfin : Hid (PlI s p t R w W5 (i + 2) (.slice xa xn xc) (a ++ [y]) (a.length + 1) ∧ xn = (a ++ [y]).length ∧ i + 2 ≤ t) := ⟨hnx.out 2 y (a.length + 1) _ _ (by decide) (by exact hA2'.out.1) h5 (by omega) (by rw [hst'.out, hko.out, hcy.out]; rfl), by rw [hxn]; simp, by exact hA2'.out.2⟩
      have hxn' : Hid (xn = a.length + 1) := hxn
      clear h5 hxn hnx herr hBo hst' hko hcy hcons' hAst hAes hns'
      go_wp2_with (first
       | (at_builtin; refine Lib.wpList_append_run _ rfl _ _ _ _ rfl _ _ rfl rfl _ _ e1 ?_; clear e1)
       | (go_at_call 73; refine hAy'.out.mono ?_; rintro e w' ⟨rfl, hww⟩; obtain rfl := hww.symm; clear hww))
      go_roundw
      case rel => exact ⟨i + 2, a.length + 1, xn, xc, xa, a ++ [y], by go_num, by rw [hxn'.out], rfl, hfin⟩
      case measure => have := hfin.out.2.2; simp [intOf]; omega
     ·have hes' : es y = false := by cases hq : es y with
       | true => exact absurd hq hes
       | false => rfl
      rw [hes'] at hAy
      by_cases hi3 : i + 2 < t
      ·have j3 : (i : Int) + 2 < (t : Int) := by omega
       have hi2s : i + 2 < s.size := by have := h'.out.2.1; omega
       have j4 : (i : Int) + 2 < (s.size : Int) := by omega
       obtain ⟨z, hz⟩ : ∃ z, s[i + 2] = z := ⟨_, rfl⟩
       have hcz : Hid (lf s i = 92 :: y :: z :: lf s (i + 3)) := by
        unfold Hid
        rw [hcy.out, lf_cons hi2s, hz]
       have hHy := fun W => hH y W
       have hHz := fun W => hH z W
       by_cases hdy : hd y = true
       ·have gy : 0 ≤ hxI y := (hxI_hd y).2 hdy
        by_cases hdz : hd z = true
        ·have gz : 0 ≤ hxI z := (hxI_hd z).2 hdz
         obtain ⟨m1, m2, m3⟩ := hd_ok z hdz
         have hA3 : Hid (Al s (i + 3) t) := hA2'.out.1.step hi2s (by rw [hz]; exact fun q => by rcases q with q | q <;> contradiction) (by rw [hz]; exact m1)
         have hko : Hid (kO (lf s i) = 3) := by unfold Hid; rw [hcz.out]; unfold kO kB; simp [hes', hdy, hdz]
         obtain ⟨hb1, hb2, hb3⟩ := hb_int hdy hdz
         obtain ⟨B, hB⟩ : ∃ B, hb y z = B := ⟨_, rfl⟩
         rw [hB] at hb1
         have hw1 : IntKind.u8.wrap (16 * hxI y + hxI z) = (B.toNat : Int) := by rw [IntKind.wrap_u8]; omega
         have hyl := (hxI_lt y).2
         have hzl := (hxI_lt z).2
         have hi01 : (0 : Int) ≤ (i : Int) + 1 := by omega
         have hi02 : (0 : Int) ≤ (i : Int) + 2 := by omega
         have hzt : ((i : Int) + 2).toNat = i + 2 := by omega
         have hwi1 : IntKind.i64.wrap ((i : Int) + 1) = ((i + 1 : Nat) : Int) := by simp only [IntKind.wrap_i64, wrap64]; omega
         have hwi2 : IntKind.i64.wrap ((i : Int) + 2) = ((i + 2 : Nat) : Int) := by simp only [IntKind.wrap_i64, wrap64]; omega
         have hw16 : IntKind.i64.wrap (16 * hxI y) = 16 * hxI y := by simp only [IntKind.wrap_i64, wrap64]; omega
         have hws : IntKind.i64.wrap (16 * hxI y + hxI z) = 16 * hxI y + hxI z := by simp only [IntKind.wrap_i64, wrap64]; omega
         obtain ⟨xa, xn, xc, W5, e1, h5, hxn⟩ := (hBo.out.drew 1).push B hal.out
         have hfin : Hid (PlI s p t R w W5 (i + 3) (.slice xa xn xc) (a ++ [B]) (a.length + 1) ∧ xn = (a ++ [B]).length ∧ i + 3 ≤ t) := ⟨hnx.out 3 B (a.length + 1) _ _ (by decide) hA3.out h5 (by omega) (by rw [hst'.out, hko.out, hcz.out, ← hB]; rfl), by rw [hxn]; simp, (hA3.out.le).1⟩
         have hxn' : Hid (xn = a.length + 1) := hxn
         have hH1 := hHy
         have hH2 := hHz
         obtain ⟨hyv, hyve⟩ : ∃ q, hxI y = q := ⟨_, rfl⟩
         obtain ⟨hzv, hzve⟩ : ∃ q, hxI z = q := ⟨_, rfl⟩
         simp only [hyve] at hHy hH1 gy hw1 hyl hw16 hws
         simp only [hzve] at hHz hH2 gz hw1 hzl hws
         clear hH hA1 hA2 h92 hes hes' hnx herr hBo hst' hko hcy hcz hcons' hAst hAes hns' hb1 hb2 hb3 hB m1 m2 m3 hdy hdz h5 hxn hyve hzve
         go_upto_region 15 with (first
          | (go_at_call 73; refine hAy.out.mono ?_; rintro e w' ⟨rfl, hww⟩; obtain rfl := hww.symm; clear hww; have T1 : True := trivial)
          | (clear T1; go_at_call 95; refine (hHy _).out.mono ?_; rintro e w' ⟨rfl, hww⟩; obtain rfl := hww.symm; clear hww; have T2 : True := trivial)
          | (clear T2; go_at_call 95; refine (hHz _).out.mono ?_; rintro e w' ⟨rfl, hww⟩; obtain rfl := hww.symm; clear hww))
         refine Du.regionP (fun i => i == 99) (fun w' => True) (by kernel_rfl) ?_
         refine RgN.n_takeWl 0 ?vab1 (by rfl) (by kernel_rfl) (by kernel_rfl) (by kernel_rfl) rfl (by rfl) ?yab1 ?rab1
         case yab1 =>
          intro w'
          go_simp
          try with_reducible rfl
         case rab1 =>
         simp only [Act.put, List.setIfInBounds_toArray, List.set_cons_zero, List.set_cons_succ]
         refine RgN.n_takeWl 1 ?vab2 (by rfl) (by kernel_rfl) (by kernel_rfl) (by kernel_rfl) rfl (by rfl) ?yab2 ?rab2
         case yab2 =>
          intro w'
          go_simp
          try with_reducible rfl
         case rab2 =>
         simp only [Act.put, List.setIfInBounds_toArray, List.set_cons_zero, List.set_cons_succ]
         refine RgN.n_takeWl 2 ?vab3 (by rfl) (by kernel_rfl) (by kernel_rfl) (by kernel_rfl) rfl (by rfl) ?yab3 ?rab3
         case yab3 =>
          intro w'
          go_simp
          try with_reducible rfl
         case rab3 =>
         simp only [Act.put, List.setIfInBounds_toArray, List.set_cons_zero, List.set_cons_succ]
         refine RgN.n_takeWl 3 ?vab4 (by rfl) (by kernel_rfl) (by kernel_rfl) (by kernel_rfl) rfl (by rfl) ?yab4 ?rab4
         case yab4 =>
          intro w'
          go_simp
          try with_reducible rfl
         case rab4 =>
         simp only [Act.put, List.setIfInBounds_toArray, List.set_cons_zero, List.set_cons_succ]
         refine RgN.n_takeWl 4 ?vab5 (by rfl) (by kernel_rfl) (by kernel_rfl) (by kernel_rfl) rfl (by rfl) ?yab5 ?rab5
         case yab5 =>
          intro w'
          go_simp
          try with_reducible rfl
         case rab5 =>
         simp only [Act.put, List.setIfInBounds_toArray, List.set_cons_zero, List.set_cons_succ]
         refine RgN.n_takeWl 7 ?vab6 (by rfl) (by kernel_rfl) (by kernel_rfl) (by kernel_rfl) rfl (by rfl) ?yab6 ?rab6
         case yab6 =>
          intro w'
          go_simp
          try with_reducible rfl
         case rab6 =>
         simp only [Act.put, List.setIfInBounds_toArray, List.set_cons_zero, List.set_cons_succ]
         refine RgN.n_takeWl 8 ?vab7 (by rfl) (by kernel_rfl) (by kernel_rfl) (by kernel_rfl) rfl (by rfl) ?yab7 ?rab7
         case yab7 =>
          intro w'
          go_simp
          try with_reducible rfl
         case rab7 =>
         simp only [Act.put, List.setIfInBounds_toArray, List.set_cons_zero, List.set_cons_succ]
         refine RgN.n_takeWl 9 ?vab8 (by rfl) (by kernel_rfl) (by kernel_rfl) (by kernel_rfl) rfl (by rfl) ?yab8 ?rab8
         case yab8 =>
          intro w'
          go_simp
          try with_reducible rfl
         case rab8 =>
         simp only [Act.put, List.setIfInBounds_toArray, List.set_cons_zero, List.set_cons_succ]
         refine RgN.n_takeWl 10 ?vab9 (by rfl) (by kernel_rfl) (by kernel_rfl) (by kernel_rfl) rfl (by rfl) ?yab9 ?rab9
         case yab9 =>
          intro w'
          go_simp
          try with_reducible rfl
         case rab9 =>
         simp only [Act.put, List.setIfInBounds_toArray, List.set_cons_zero, List.set_cons_succ]
         refine RgN.n_onel 5 (by kernel_rfl) (by rfl) (fun K hK => ?_)
         go_simp
         refine (hH1 _).out.mono ?_
         rintro e w8 ⟨rfl, hww⟩
         obtain rfl := hww.symm
         clear hww
         go_simp
         refine hK.out _ _ (fun h => by cases h) ?_
         clear hK K
         try simp only [Act.put, List.setIfInBounds_toArray, List.set_cons_zero, List.set_cons_succ]
         refine RgN.n_takeWl 6 ?vab11 (by rfl) (by kernel_rfl) (by kernel_rfl) (by kernel_rfl) rfl (by rfl) ?yab11 ?rab11
         case yab11 =>
          intro w'
          go_simp
          try with_reducible rfl
         case rab11 =>
         simp only [Act.put, List.setIfInBounds_toArray, List.set_cons_zero, List.set_cons_succ]
         refine RgN.n_onel 11 (by kernel_rfl) (by rfl) (fun K hK => ?_)
         go_simp
         refine (hH2 _).out.mono ?_
         rintro e w8 ⟨rfl, hww⟩
         obtain rfl := hww.symm
         clear hww
         go_simp
         refine hK.out _ _ (fun h => by cases h) ?_
         clear hK K
         try simp only [Act.put, List.setIfInBounds_toArray, List.set_cons_zero, List.set_cons_succ]
         refine RgN.n_takeWl 12 ?vab13 (by rfl) (by kernel_rfl) (by kernel_rfl) (by kernel_rfl) rfl (by rfl) ?yab13 ?rab13
         case yab13 =>
          intro w'
          go_simp
          try with_reducible rfl
         case rab13 =>
         simp only [Act.put, List.setIfInBounds_toArray, List.set_cons_zero, List.set_cons_succ]
         refine RgN.n_takeWl 13 ?vab14 (by rfl) (by kernel_rfl) (by kernel_rfl) (by kernel_rfl) rfl (by rfl) ?yab14 ?rab14
         case yab14 =>
          intro w'
          go_simp
          try with_reducible rfl
         case rab14 =>
         simp only [Act.put, List.setIfInBounds_toArray, List.set_cons_zero, List.set_cons_succ]
         refine RgN.n_onel 14 (by kernel_rfl) (by rfl) (fun K hK => ?_)
         go_simp
         refine hK.out _ _ (fun h => by cases h) ?_
         clear hK K
         try simp only [Act.put, List.setIfInBounds_toArray, List.set_cons_zero, List.set_cons_succ]
         refine RgN.n_onel 15 (by kernel_rfl) (by rfl) (fun K hK => ?_)
         refine step_run _ (by rfl) _ _ _ _ (by rfl) _ _ (by rfl) (by rfl) _ _ e1 ?_
         refine hK.out _ _ (fun h => by cases h) ?_
         clear hK K
         try simp only [Act.put, List.setIfInBounds_toArray, List.set_cons_zero, List.set_cons_succ]
         refine RgN.n_onel 16 (by kernel_rfl) (by rfl) (fun K hK => ?_)
         go_simp
         refine hK.out _ _ (fun h => by cases h) ?_
         clear hK K
         try simp only [Act.put, List.setIfInBounds_toArray, List.set_cons_zero, List.set_cons_succ]
         refine RgN.n_done (by kernel_rfl) ?_ _
         go_wp2_with fail
         go_roundw
         case rel => exact ⟨i + 3, a.length + 1, xn, xc, xa, a ++ [B], by go_num, by rw [hxn'.out], rfl, hfin⟩
         case measure => have := hfin.out.2.2; simp [intOf]; omega
        ·have gz : ¬ 0 ≤ hxI z := fun q => hdz ((hxI_hd z).1 q)
         have hdz' : hd z = false := by cases hq : hd z with
          | true => exact absurd hq hdz
          | false => rfl
         obtain ⟨hyv, hyve⟩ : ∃ q, hxI y = q := ⟨_, rfl⟩
         obtain ⟨hzv, hzve⟩ : ∃ q, hxI z = q := ⟨_, rfl⟩
         simp only [hyve] at hHy gy
         simp only [hzve] at hHz gz
         have hko : Hid (kO (lf s i) = 1) := by unfold Hid; rw [hcz.out]; unfold kO kB; simp [hes', hdz']
         have hf : Hid (RvQ s t w R (.returned (.tuple #[.string ⟨#[]⟩, .int .i64 54, .int .i64 (i : Int)])) wr) := herr.out 54 (by decide) (by rw [hst'.out, hko.out]; rfl)
         clear hA2 h92 hnx herr hBo hst' hko hcons' hAst hAes hns' hH hA1 hes hes' hcy hcz hdy hdz hdz' hyve hzve
         go_wp2_with (first
          | (go_at_call 73; refine hAy.out.mono ?_; rintro e w' ⟨rfl, hww⟩; obtain rfl := hww.symm; clear hww; have T1 : True := trivial)
          | (clear T1; go_at_call 95; refine (hHy _).out.mono ?_; rintro e w' ⟨rfl, hww⟩; obtain rfl := hww.symm; clear hww; have T2 : True := trivial)
          | (clear T2; go_at_call 95; refine (hHz _).out.mono ?_; rintro e w' ⟨rfl, hww⟩; obtain rfl := hww.symm; clear hww))
         go_ret3
         exact hf.out
       ·have gy : ¬ 0 ≤ hxI y := fun q => hdy ((hxI_hd y).1 q)
        have hdy' : hd y = false := by cases hq : hd y with
         | true => exact absurd hq hdy
         | false => rfl
        obtain ⟨hyv, hyve⟩ : ∃ q, hxI y = q := ⟨_, rfl⟩
        simp only [hyve] at hHy gy
        have hko : Hid (kO (lf s i) = 1) := by unfold Hid; rw [hcz.out]; unfold kO kB; simp [hes', hdy']
        have hf : Hid (RvQ s t w R (.returned (.tuple #[.string ⟨#[]⟩, .int .i64 54, .int .i64 (i : Int)])) wr) := herr.out 54 (by decide) (by rw [hst'.out, hko.out]; rfl)
        clear hA2 h92 hnx herr hBo hst' hko hcons' hAst hAes hns' hH hA1 hes hes' hcy hcz hdy hdy' hyve
        go_wp2_with (first
         | (go_at_call 73; refine hAy.out.mono ?_; rintro e w' ⟨rfl, hww⟩; obtain rfl := hww.symm; clear hww; have T1 : True := trivial)
         | (clear T1; go_at_call 95; refine (hHy _).out.mono ?_; rintro e w' ⟨rfl, hww⟩; obtain rfl := hww.symm; clear hww; have T2 : True := trivial)
         | (clear T2; go_at_call 95; refine (hHz _).out.mono ?_; rintro e w' ⟨rfl, hww⟩; obtain rfl := hww.symm; clear hww))
        go_ret3
        exact hf.out
      ·have j3 : ¬ (i : Int) + 2 < (t : Int) := by omega
       have hkb : Hid (kB (y :: lf s (i + 2)) = 1) := by
        have hit : i + 2 = t := by omega
        unfold Hid
        rcases (show En (lf s (i + 2)) by rw [hit]; exact hA2'.out.1.en) with e | ⟨d, r, e, hd'⟩
        ·rw [e]; unfold kB; simp [hes']
        ·rw [e]
         have hn : hd d = false := by rcases hd' with rfl | rfl <;> decide
         unfold kB
         simp [hes', hn]
       have hko : Hid (kO (lf s i) = 1) := by unfold Hid; rw [hcy.out]; unfold kO; simpa using hkb.out
       have hf : Hid (RvQ s t w R (.returned (.tuple #[.string ⟨#[]⟩, .int .i64 54, .int .i64 (i : Int)])) wr) := herr.out 54 (by decide) (by rw [hst'.out, hko.out]; rfl)
       clear hA2 h92 hnx herr hBo hst' hko hcons' hAst hAes hns' hH hA1 hes hes' hcy hkb
       go_wp2_with (first
        | (go_at_call 73; refine hAy.out.mono ?_; rintro e w' ⟨rfl, hww⟩; obtain rfl := hww.symm; clear hww))
       go_ret3
       exact hf.out
    ·have hit : i + 1 = t := by
      have h1 := hlt'.out
      have h2 := h'.out.2.1
      omega
     have j1 : ¬ (i : Int) + 1 < (t : Int) := by omega
     have j3 : ¬ (i : Int) + 2 < (t : Int) := by omega
     have hnl : Hid (lf s (i + 1) = []) := lf_nil (by omega)
     have hko : Hid (kO (lf s i) = 1) := by unfold Hid; rw [hcons'.out, h92'.out, hnl.out]; rfl
     have hf : Hid (RvQ s t w R (.returned (.tuple #[.string ⟨#[]⟩, .int .i64 54, .int .i64 (i : Int)])) wr) := herr.out 54 (by decide) (by rw [hst'.out, hko.out]; rfl)
     clear hA2 h92 hnx herr hBo hst' hko hcons' hAst hAes hns' hH hA1 hnl
     go_wp2_with fail
     go_ret3
     exact hf.out
   ·have g92 : ((x.toNat : Int) == 92) = false := by rw [beq_eq_false_iff_ne]; exact fun h => h92 (UInt8.toNat_inj.1 (by show x.toNat = 92; omega))
    have hAx := hA2 x wr
    have h92' : Hid (x ≠ 92) := h92
    by_cases hx0 : x = 0
    ·have g0 : ((x.toNat : Int) == 0) = true := by rw [hx0]; rfl
     have hko : Hid (kO (lf s i) = 2) := by unfold Hid; rw [hcons'.out, hx0]; rfl
     have hf : Hid (RvQ s t w R (.returned (.tuple #[.string ⟨#[]⟩, .int .i64 55, .int .i64 (i : Int)])) wr) := herr.out 55 (by decide) (by rw [hst'.out, hko.out]; rfl)
     clear hH hA1 hA2 h92 hnx herr hBo hst' hko hcons' hAst hAes hns' hx0
     go_wp2_with fail
     go_ret3
     exact hf.out
    ·have g0 : ((x.toNat : Int) == 0) = false := by rw [beq_eq_false_iff_ne]; exact fun h => hx0 (UInt8.toNat_inj.1 (by show x.toNat = 0; omega))
     have hbr := bar_eq x
     rw [show (x == 0) = false from by rw [beq_eq_false_iff_ne]; exact hx0, Bool.false_or] at hbr
     obtain ⟨bb, hbb⟩ : ∃ bb, [34, 59, 60, 62].contains x = bb := ⟨_, rfl⟩
     rw [hbb] at hAx hbr
     cases bb with
     | true =>
      have hko : Hid (kO (lf s i) = 2) := by unfold Hid; rw [hcons'.out]; unfold kO; dsimp only; rw [if_neg hns'.out, if_neg h92, if_pos hbr]
      have hf : Hid (RvQ s t w R (.returned (.tuple #[.string ⟨#[]⟩, .int .i64 55, .int .i64 (i : Int)])) wr) := herr.out 55 (by decide) (by rw [hst'.out, hko.out]; rfl)
      clear hH hA1 hA2 h92 hnx herr hBo hst' hko hcons' hAst hAes hns' hx0 hbr hbb
      go_wp2_with (go_at_call 73; refine hAx.out.mono ?_; rintro e w' ⟨rfl, hww⟩; obtain rfl := hww.symm; clear hww)
      go_ret3
      exact hf.out
     | false =>
      have hbr' : ¬ bar x = true := by rw [hbr]; decide
      by_cases h32 : x = 32
      ·have g32 : ((x.toNat : Int) != 32) = false := by rw [h32]; rfl
       have hko : Hid (kO (lf s i) = 6) := by unfold Hid; rw [hcons'.out]; unfold kO; dsimp only; rw [if_neg hns'.out, if_neg h92, if_neg hbr', if_pos h32]
       clear hH hA1 hA2 h92 h32 hbr hbb hbr' hx0
       obtain ⟨xa, xn, xc, W5, e1, h5, hxn⟩ := hBo.out.push x hal.out
       have hfin : Hid (PlI s p t R w W5 (i + 1) (.slice xa xn xc) (a ++ [x]) c ∧ xn = (a ++ [x]).length ∧ i + 1 ≤ t) := ⟨hnx.out 1 x c _ _ (by decide) (by exact hAst.out h92'.out) h5 (by have := hcn.out.2; omega) (by rw [hst'.out, hko.out, hcons'.out]; rfl), by rw [hxn]; simp, by exact hlt'.out⟩
       have hxn' : Hid (xn = a.length + 1) := hxn
       clear h5 hxn hnx herr hBo hst' hko hcons' hAst hAes hns'
       go_wp2_with (first
        | (at_builtin; refine Lib.wpList_append_run _ rfl _ _ _ _ rfl _ _ rfl rfl _ _ e1 ?_; clear e1)
        | (go_at_call 73; refine hAx.out.mono ?_; rintro e w' ⟨rfl, hww⟩; obtain rfl := hww.symm; clear hww))
       go_roundw
       case rel => exact ⟨i + 1, c, xn, xc, xa, a ++ [x], by go_num, rfl, rfl, hfin⟩
       case measure => have := hfin.out.2.2; simp [intOf]; omega
      ·have g32 : ((x.toNat : Int) != 32) = true := by rw [bne_iff_ne]; exact fun h => h32 (UInt8.toNat_inj.1 (by show x.toNat = 32; omega))
       have hko : Hid (kO (lf s i) = 5) := by unfold Hid; rw [hcons'.out]; unfold kO; dsimp only; rw [if_neg hns'.out, if_neg h92, if_neg hbr', if_neg h32]
       clear hH hA1 hA2 h92 h32 hbr hbb hbr' hx0
       obtain ⟨xa, xn, xc, W5, e1, h5, hxn⟩ := hBo.out.push x hal.out
       have hfin : Hid (PlI s p t R w W5 (i + 1) (.slice xa xn xc) (a ++ [x]) (a.length + 1) ∧ xn = (a ++ [x]).length ∧ i + 1 ≤ t) := ⟨hnx.out 1 x (a.length + 1) _ _ (by decide) (by exact hAst.out h92'.out) h5 (by omega) (by rw [hst'.out, hko.out, hcons'.out]; rfl), by rw [hxn]; simp, by exact hlt'.out⟩
       have hxn' : Hid (xn = a.length + 1) := hxn
       clear h5 hxn hnx herr hBo hst' hko hcons' hAst hAes hns'
       go_wp2_with (first
        | (at_builtin; refine Lib.wpList_append_run _ rfl _ _ _ _ rfl _ _ rfl rfl _ _ e1 ?_; clear e1)
        | (go_at_call 73; refine hAx.out.mono ?_; rintro e w' ⟨rfl, hww⟩; obtain rfl := hww.symm; clear hww))
       go_roundw
       case rel => exact ⟨i + 1, a.length + 1, xn, xc, xa, a ++ [x], by go_num, by rw [hxn'.out], rfl, hfin⟩
       case measure => have := hfin.out.2.2; simp [intOf]; omega
  ·have hkt : i = t := by have := hQ.out.2.2; omega
   have i1 : ¬ (i : Int) < (t : Int) := by omega
   have hcb : c ≤ cp := by
    obtain ⟨va', c', e, hc⟩ := hQ.out.1.1.form
    injection e with _ _ e3
    have := hQ.out.1.2.2.2.2.1
    omega
   have e1 := frontB va n cp c hcb wr
   have e2 := hQ.out.1.1.front c hQ.out.1.2.2.2.2.1 va n cp rfl
   have hfin : Hid (RvQ s t w R (.returned (.tuple #[.string (S (a.take c)), .int .i64 0, .int .i64 0])) wr) := by
    have h1 := hQ.out.1.2.2.2.2.2
    rw [tv_step, if_pos ((hQ.out.1.2.1.done).1 hkt)] at h1
    subst h1
    refine ⟨rfl, fun x r h => ?_, fun k m h => (by cases h), hQ.out.1.1.2⟩
    injection h with h
    injection h with h1 h2
    refine ⟨by rw [← h2, hkt], ?_⟩
    rw [← h1, List.length_take]
    have := hal.out
    omega
   generalize S (a.take c) = X at *
   clear hQ hlt hkt hcb
   go_wp2_with fail
   go_ret3
   exact hfin.out
end Pa
end Go.Proofs.YtkknenmpdimdbaaGreatDoor

namespace Go.Proofs.YtkknenmpdimdbaaGreatDoor
namespace Pa
open Go.RowKit
open TextMath (fold lo normal check wo unhex)
open Ke (tyOk tyC utf PR rparse_ty rcheck_ty)
open Du (PRow prow_at)
set_option linter.unusedVariables false
set_option linter.unusedSimpArgs false
set_option maxRecDepth 100000
def Ab (w W : World) : Prop := W.heap[w.heap.size]? = some (.cells #[.string ⟨#[]⟩, .string ⟨#[]⟩] 64 (0, 0)) ∧ Below w.heap.size w W
theorem Ab.below {w W W' : World} (h : Ab w W) (hb : Below W.heap.size W W') : Ab w W' := ⟨(hb.block _ (Array.getElem?_eq_some_iff.1 h.1).1).trans h.1, h.2.trans (hb.mono h.2.size)⟩
theorem Ab.cells {w W : World} (h : Ab w W) : (W.cell? ⟨w.heap.size, 0, none⟩ = some (.string ⟨#[]⟩) ∧ W.cell? ⟨w.heap.size, 1, none⟩ = some (.string ⟨#[]⟩)) ∧ W.frozen? ⟨w.heap.size, 0, none⟩ = false ∧ W.frozen? ⟨w.heap.size, 1, none⟩ = false := by
 refine ⟨⟨?_, ?_⟩, Go.frozen_of_row _ _ _ _ _ h.1, Go.frozen_of_row _ _ _ _ _ h.1⟩
 ·rw [cell_of_row _ _ _ _ _ _ h.1]; rfl
 ·rw [cell_of_row _ _ _ _ _ _ h.1]; rfl
theorem Ab.done {w W : World} (h : Ab w W) (x y : Value) : (loadVar 64 ⟨w.heap.size, 0, none⟩).run Tryz.prog ((W.setCell ⟨w.heap.size, 0, none⟩ x).setCell ⟨w.heap.size, 1, none⟩ y) = .ok (.agg #[x, y]) ((W.setCell ⟨w.heap.size, 0, none⟩ x).setCell ⟨w.heap.size, 1, none⟩ y) ∧ Below w.heap.size w ((W.setCell ⟨w.heap.size, 0, none⟩ x).setCell ⟨w.heap.size, 1, none⟩ y) := by
 have h1 := Go.heap_setCell_same _ w.heap.size 1 _ _ y (Go.heap_setCell_same W w.heap.size 0 _ _ x h.1)
 exact ⟨run_loadVar_row (P := Tryz.prog) _ w.heap.size 64 64 #[x, y] (0, 0) _ h1 Tryz.underlying64 rfl (by kernel_rfl), (h.2.setCell (p := ⟨w.heap.size, 0, none⟩) (Nat.le_refl _) _).setCell (p := ⟨w.heap.size, 1, none⟩) (Nat.le_refl _) _⟩
abbrev RP := Except (Nat × Nat) (PR × List UInt8)
def prR (ps : List PR) (l : List UInt8) : RP :=
 match pt (ps.map fun p => tyC p.1) l with
 | .error e => .error e
 | .ok x => match (if x.2.head? = some 35 then hxR (x.2.drop 1) else tv (x.2.length + 1) x.2 [] 0) with
  | .error e => .error e
  | .ok y => if utf y.1 = true then .ok ((x.1, y.1), y.2) else .error (51, x.2.length)
theorem prR_pv (ps : List PR) (l : List UInt8) : prR ps l = match pt (ps.map fun p => tyC p.1) l with
  | .error e => .error e
  | .ok x => match pv hxO x.2 with
   | some (.error e) => .error e
   | some (.ok y) => .ok ((x.1, y.1), y.2)
   | none => .error (0, 0) := by
 unfold prR
 cases pt (ps.map fun p => tyC p.1) l with
 | error e => rfl
 | ok x =>
  dsimp only
  rw [pv_eq]
  have e : (if x.2.head? = some 35 then hxO (x.2.drop 1) else some (tv (x.2.length + 1) x.2 [] 0)) = some (if x.2.head? = some 35 then hxR (x.2.drop 1) else tv (x.2.length + 1) x.2 [] 0) := by
   unfold hxO
   split <;> rfl
  rw [e]
  cases (if x.2.head? = some 35 then hxR (x.2.drop 1) else tv (x.2.length + 1) x.2 [] 0) with
  | error e => rfl
  | ok y =>
   show _ = match (some (chkV x.2.length (.ok y)) : Option VR) with
    | some (.error e) => Except.error e
    | some (.ok y) => Except.ok ((x.1, y.1), y.2)
    | none => Except.error (0, 0)
   unfold chkV
   dsimp only
   split <;> rfl
def rpV (n : Nat) : RP → Value
 | .ok x => .tuple #[.agg #[.string (S x.1.1), .string (S x.1.2)], .int .i64 0, .int .i64 0]
 | .error e => .tuple #[.agg #[.string ⟨#[]⟩, .string ⟨#[]⟩], .int .i64 (e.1 : Int), .int .i64 ((n - e.2 : Nat) : Int)]
def RpQ (s : ByteArray) (t : Nat) (w : World) (R : RP) (e : Ending) (w' : World) : Prop := e = .returned (rpV s.size R) ∧ (∀ x r, R = .ok (x, r) → r = lf s t ∧ x.1.length ≤ 4096 ∧ x.2.length ≤ 4096) ∧ (∀ k m, R = .error (k, m) → k ≠ 0) ∧ Below w.heap.size w w'
theorem tb_ok : ∀ c, tb c = true → c ≠ 92 ∧ c ≠ 44 ∧ c ≠ 43 := by
 intro c h
 have key : ∀ n : Fin 256, tb (UInt8.ofNat n.val) = true → UInt8.ofNat n.val ≠ 92 ∧ UInt8.ofNat n.val ≠ 44 ∧ UInt8.ofNat n.val ≠ 43 := by decide +kernel
 have h2 := key ⟨c.toNat, c.toNat_lt⟩
 rw [UInt8.ofNat_toNat] at h2
 exact h2 h
end Pa
end Go.Proofs.YtkknenmpdimdbaaGreatDoor
