import Derived.Test.YtkknenmpdimdbaaGreatDoorFW45
import Derived.Test.YtkknenmpdimdbaaGreatDoorFW43
import Derived.Test.YtkknenmpdimdbaaGreatDoorFW12
import Derived.Test.YtkknenmpdimdbaaGreatDoorKeY
namespace Go.Proofs.YtkknenmpdimdbaaGreatDoor
open Go.RowKit
open TextMath (fold lo col bl trimP trimS squeeze normal)
theorem trimP_if (l : List UInt8) : trimP l = l.drop (if l.getD 0 0 = 32 then 1 else 0) := by
 cases l with
 | nil => simp [trimP]
 | cons a t =>
  unfold trimP
  by_cases h : a = 32 <;> simp [h]
theorem trimS_drop (c : List UInt8) (p : Nat) : trimS (c.drop p) = (c.drop p).take ((if p < c.length ∧ c.getD (c.length - 1) 0 = 32 then c.length - 1 else c.length) - p) := by
 unfold trimS
 by_cases hp : p < c.length
 ·have hl : (c.drop p).getLast? = some (c.getD (c.length - 1) 0) := by
   rw [List.getLast?_eq_getElem?, List.getElem?_drop, List.length_drop]
   have e : p + (c.length - p - 1) = c.length - 1 := by omega
   rw [e, List.getElem?_eq_getElem (by omega)]
   simp [List.getD, List.getElem?_eq_getElem (show c.length - 1 < c.length by omega)]
  rw [hl]
  by_cases h : c.getD (c.length - 1) 0 = 32
  ·rw [if_pos (by rw [h]), if_pos ⟨hp, h⟩, List.dropLast_eq_take, List.length_drop]
   congr 1; omega
  ·rw [if_neg (by intro hh; injection hh with hh; exact h hh), if_neg (fun hh => h hh.2), List.take_of_length_le (by simp)]
 ·rw [List.drop_eq_nil_of_le (by omega)]
  simp
theorem sq_ext (T : ByteArray) (p q : Nat) (hp : p = if T.data.toList.getD 0 0 = 32 then 1 else 0) (hq : q = if p < T.data.toList.length ∧ T.data.toList.getD (T.data.toList.length - 1) 0 = 32 then T.data.toList.length - 1 else T.data.toList.length) :
  T.extract p q = S (trimS (trimP T.data.toList)) := by
 apply S_eq
 rw [Lib.extract_data, trimP_if, trimS_drop, ← hp, ← hq]
theorem ext_all (T : ByteArray) : T.extract 0 T.size = T := by
 rw [← S_of (T.extract 0 T.size), take_l, List.take_of_length_le (by rw [size_l]; exact Nat.le_refl _), S_of]
theorem u32 (c : UInt8) : ((c.toNat : Int) == 32) = true ↔ c = 32 := by
 rw [beq_iff_eq]
 constructor
 ·intro h; apply UInt8.toNat_inj.1; have : (32 : UInt8).toNat = 32 := rfl; omega
 ·rintro rfl; rfl
set_option maxHeartbeats 1000000 in
theorem rSqueeze_any (s : ByteArray) (w : World) (hm : s.size ≤ 140737488355328) :
  Calls Tryz.prog 78 #[.string s] w fun e w' => e = .returned (.string (S (squeeze s.data.toList))) ∧ Below w.heap.size w w' := by
 have hcl := TextMath.col_length s.data.toList false
 rw [size_l] at hcl
 have hsq : Hid (squeeze s.data.toList = trimS (trimP (S (col false s.data.toList)).data.toList)) := by unfold Hid; rw [S_l]; rfl
 have hts : (S (col false s.data.toList)).size ≤ s.size := by rw [S_size]; exact hcl
 have hcall := rCollapse_any s w hm
 have HC := hcall
 clear hcl
 generalize hT : S (col false s.data.toList) = T at *
 have HLN : Hid (T.data.toList.length = T.size) := size_l T
 have hcall2 : Hid (Calls Tryz.prog 107 #[.string s] w fun e w' => e = .returned (.string T) ∧ Below w.heap.size w w') := hcall
 clear hcall HC hT
 by_cases h0 : 0 < T.size
 ·have g0 := getD_s T 0 h0
  have g1 := getD_s T (T.size - 1) (by omega)
  by_cases hf : ((T[0].toNat : Int) == 32) = true
  ·have hf' := (u32 _).1 hf
   have p1 : (1 : Nat) = if T.data.toList.getD 0 0 = 32 then 1 else 0 := by rw [g0, if_pos hf']
   have P1 : Hid ((1 : Nat) = if T.data.toList.getD 0 0 = 32 then 1 else 0) := p1
   by_cases h1 : T.size = 1
   ·have Q : Hid ((1 : Nat) = if 1 < T.data.toList.length ∧ T.data.toList.getD (T.data.toList.length - 1) 0 = 32 then T.data.toList.length - 1 else T.data.toList.length) := by
     have hlen := HLN.out; unfold Hid; rw [if_neg (by omega), hlen, h1]
    have h1' : Hid (T.size = 1) := h1
    have l1 : T.size ≤ 1 := by omega
    have l2 : 1 ≤ T.size := by omega
    clear h1 g0 g1 p1 hf'
    go_enter Tryz.func78, Tryz.ntmps78
    go_wp2_with (go_at_call 107; refine hcall2.out.mono ?_; rintro e w1 ⟨rfl, hb⟩)
    go_ret
    exact ⟨ret_str (by rw [hsq.out]; have h := sq_ext T 1 1 P1.out Q.out; rw [← h, h1'.out]), by assumption⟩
   ·have l1 : 1 < T.size := by omega
    by_cases hlast : ((T[T.size - 1].toNat : Int) == 32) = true
    ·have Q : Hid (T.size - 1 = if 1 < T.data.toList.length ∧ T.data.toList.getD (T.data.toList.length - 1) 0 = 32 then T.data.toList.length - 1 else T.data.toList.length) := by
      have hlen := HLN.out; unfold Hid; rw [hlen, g1, if_pos ⟨l1, (u32 _).1 hlast⟩]
     clear h1 g0 g1 p1 hf'
     go_enter Tryz.func78, Tryz.ntmps78
     go_wp2_with (go_at_call 107; refine hcall2.out.mono ?_; rintro e w1 ⟨rfl, hb⟩)
     go_ret
     exact ⟨ret_str (by rw [hsq.out]; exact sq_ext T 1 _ P1.out Q.out), by assumption⟩
    ·have hlast' : ((T[T.size - 1].toNat : Int) == 32) = false := by simpa using hlast
     have Q : Hid (T.size = if 1 < T.data.toList.length ∧ T.data.toList.getD (T.data.toList.length - 1) 0 = 32 then T.data.toList.length - 1 else T.data.toList.length) := by
      have hlen := HLN.out; unfold Hid; rw [hlen, g1, if_neg (fun h => hlast ((u32 _).2 h.2))]
     clear h1 g0 g1 p1 hf' hlast
     go_enter Tryz.func78, Tryz.ntmps78
     go_wp2_with (go_at_call 107; refine hcall2.out.mono ?_; rintro e w1 ⟨rfl, hb⟩)
     go_ret
     exact ⟨ret_str (by rw [hsq.out]; exact sq_ext T 1 _ P1.out Q.out), by assumption⟩
  ·have hf' : ((T[0].toNat : Int) == 32) = false := by simpa using hf
   have P1 : Hid ((0 : Nat) = if T.data.toList.getD 0 0 = 32 then 1 else 0) := by unfold Hid; rw [g0, if_neg (fun h => hf ((u32 _).2 h))]
   by_cases hlast : ((T[T.size - 1].toNat : Int) == 32) = true
   ·have Q : Hid (T.size - 1 = if 0 < T.data.toList.length ∧ T.data.toList.getD (T.data.toList.length - 1) 0 = 32 then T.data.toList.length - 1 else T.data.toList.length) := by
     have hlen := HLN.out; unfold Hid; rw [hlen, g1, if_pos ⟨h0, (u32 _).1 hlast⟩]
    clear g0 g1 hf
    go_enter Tryz.func78, Tryz.ntmps78
    go_wp2_with (go_at_call 107; refine hcall2.out.mono ?_; rintro e w1 ⟨rfl, hb⟩)
    go_ret
    exact ⟨ret_str (by rw [hsq.out]; exact sq_ext T 0 _ P1.out Q.out), by assumption⟩
   ·have hlast' : ((T[T.size - 1].toNat : Int) == 32) = false := by simpa using hlast
    have Q : Hid (T.size = if 0 < T.data.toList.length ∧ T.data.toList.getD (T.data.toList.length - 1) 0 = 32 then T.data.toList.length - 1 else T.data.toList.length) := by
     have hlen := HLN.out; unfold Hid; rw [hlen, g1, if_neg (fun h => hlast ((u32 _).2 h.2))]
    clear g0 g1 hf hlast
    go_enter Tryz.func78, Tryz.ntmps78
    go_wp2_with (go_at_call 107; refine hcall2.out.mono ?_; rintro e w1 ⟨rfl, hb⟩)
    go_ret
    exact ⟨ret_str (by rw [hsq.out, ← sq_ext T 0 _ P1.out Q.out, ext_all]), by assumption⟩
 ·have hz : T.data.toList = [] := List.eq_nil_of_length_eq_zero (by rw [HLN.out]; omega)
  have hTe : Hid (T.extract 0 T.size = S (squeeze s.data.toList)) := by
   unfold Hid; rw [hsq.out, hz]
   apply S_eq; rw [Lib.extract_data, hz]; simp [trimS, trimP]
  clear hz
  go_enter Tryz.func78, Tryz.ntmps78
  go_wp2_with (go_at_call 107; refine hcall2.out.mono ?_; rintro e w1 ⟨rfl, hb⟩)
  go_ret
  exact ⟨ret_str (by rw [← hTe.out, ext_all]), by assumption⟩
set_option maxHeartbeats 400000 in
theorem rNormal_any (s : ByteArray) (w : World) (hm : s.size ≤ 140737488355328) :
  Calls Tryz.prog 48 #[.string s] w fun e w' => e = .returned (.string (S (normal s.data.toList))) ∧ Below w.heap.size w w' := by
 have h1 : (S (fold s.data.toList)).size ≤ 140737488355328 := by rw [S_size, fold_len, size_l]; exact hm
 go_enter Tryz.func48, Tryz.ntmps48
 go_wp2_with fail
 refine (rFold_any s _ hm).mono ?_
 rintro e w1 ⟨rfl, hb⟩
 go_wp2_with fail
 refine (rSqueeze_any _ _ h1).mono ?_
 rintro e w2 ⟨rfl, hb2⟩
 rw [S_l]
 go_wp2_with fail
 go_ret
 exact ⟨rfl, hb.trans (hb2.mono hb.size)⟩
end Go.Proofs.YtkknenmpdimdbaaGreatDoor

namespace Go.Proofs.YtkknenmpdimdbaaGreatDoor
namespace Ke
open Go.RowKit Go.Lib Go.Sort
open TextMath (fold lo normal check)
open Du (PRow pV pV_len prow_at flatV_at flatV_len info_ava)
set_option linter.unusedVariables false
set_option linter.unusedSimpArgs false
set_option maxRecDepth 100000
def KtF (ev : Nat → TypeId × Value) (w : World) (ps : List PR) (num : Int) (e : Ending) (w' : World) : Prop :=
 Below w.heap.size w w' ∧ ((num < 64 ∧ OkP ps ∧ e = .returned (.tuple #[.string (S (keyTx ps)), .nilIface])) ∨ (cer ps num ≠ 0 ∧ e = .returned (.tuple #[.string ⟨#[]⟩, refV ev (cer ps num) num])))
set_option maxHeartbeats 4000000 in
theorem keyText_F (ev : Nat → TypeId × Value) (a : Option Addr) (c n : Nat) (ps : List PR) (num : Int) (w : World) (hG : ErrsF ev w) (hn : ps.length = n) (hr : PRow w a ps) (hz : ∀ p ∈ ps, p.1.length + p.2.length ≤ 1073741824) (hnb : n ≤ 140737488355328) :
  Calls Tryz.prog 32 #[.slice a n c, .int .i64 num] w fun e w' => KtF ev w ps num e w' := by
 have hC : Hid (Calls Tryz.prog 39 #[.slice a n c, .int .i64 num] w fun e w' => CanF ev w ps num n e w') := canonical_typesF ev a c n ps num w hG hn hr (fun p hp => by have := hz p hp; omega) hnb
 have hn' : Hid (ps.length = n) := hn
 have hr' : Hid (PRow w a ps) := hr
 have hz' : Hid (∀ p ∈ ps, p.1.length + p.2.length ≤ 1073741824) := hz
 have hsumB : Hid (OkP ps → ((srtP (ps.map cn)).map ptW).sum ≤ 1000000000000) := fun hok => by
  have h1 := sum_le (srtP (ps.map cn)) 10000000000 (fun x hx => by
   obtain ⟨p, hp, rfl⟩ := List.mem_map.1 ((srt_holds (ps.map cn)).1.subset hx)
   have h2 := hz p hp
   have h3 := tyC_len p.1
   have h4 := normal_len p.2
   unfold ptW cn
   simp only
   omega)
  have h2 := (srt_holds (ps.map cn)).2.1
  rw [List.length_map] at h2
  have h3 := hok.2.1
  rw [h2] at h1
  have : ps.length * 10000000000 ≤ 8 * 10000000000 := Nat.mul_le_mul_right _ h3
  omega
 clear hr hz hn hnb hG
 go_enter Tryz.func32, Tryz.ntmps32
 go_wp2_with fail
 refine hC.out.mono ?_
 rintro e W1 ⟨hb1, ⟨h64, hok, ta, tc, rfl, hO⟩ | ⟨hno, rfl⟩⟩
 ·have hok' : Hid (num < 64 ∧ OkP ps) := ⟨h64, hok⟩
  have hn8 : n ≤ 8 := by have := hok.2.1; have := hn'.out; omega
  have hn1 : 1 ≤ n := by have := hok.1; have := hn'.out; omega
  have nb : (n : Int) ≤ 8 := by omega
  have hb1' : Hid (Below w.heap.size w W1) := hb1
  obtain ⟨tg, rfl⟩ : ∃ tg, ta = some ⟨tg, 0, none⟩ := by
   rcases ownS_formD hO with ⟨h0, h1⟩ | ⟨g, cap, h0, _⟩
   ·injection h0 with _ h0
    omega
   ·injection h0 with h0
    exact ⟨g, h0⟩
  have hO' : Hid (OwnS W1 w.heap.size (.slice (some ⟨tg, 0, none⟩) n tc) (ps.map fun p => tyC p.1)) := hO
  have hmk := make_rdn n hn8 W1
  obtain ⟨W2, hW2⟩ : ∃ W2, W1.alloc (.cells ((List.replicate n (([], []) : PR)).flatMap pV).toArray 64) = W2 := ⟨_, rfl⟩
  have hF0 : Hid (FlI W1 ps n 0 (List.replicate n ([], [])) W2) := by
   refine ⟨List.length_replicate, by simp, ?_, ?_⟩
   ·unfold PB; rw [← hW2]; exact heap_alloc_new _ _
   ·rw [← hW2]; exact (Below.refl _ _).alloc (Nat.le_refl _) _
  rw [hW2] at hmk
  have hn8' : Hid (n ≤ 8 ∧ 1 ≤ n) := ⟨hn8, hn1⟩
  clear hO hok h64 hb1 hW2 hC hn8
  go_wp2_with fail
  go_loopw [26] (fun iv wr => ∃ (k : Nat) (qs : List PR), k ≤ n ∧ iv = .int .i64 (k : Int) ∧ Hid (FlI W1 ps n k qs wr)) (fun iv _ => n - (intOf iv).toNat)
  case atStart => exact ⟨0, _, Nat.zero_le _, rfl, hF0⟩
  case round =>
   obtain ⟨k, qs, hk, rfl, hF⟩ := hrel
   clear hF0 hmk
   have k0 : (0 : Int) ≤ (k : Int) := Int.natCast_nonneg _
   by_cases hlt : k < n
   ·have k1 : (k : Int) < (n : Int) := Int.ofNat_lt.2 hlt
    have hkP : k < ps.length := by rw [hn'.out]; exact hlt
    obtain ⟨pb, po, rfl, c3, c4⟩ := prow_at ((hr'.out.below pV_len hb1'.out).below pV_len hF.out.2.2.2) k hkP
    have ct := ownS_cell (l := ps.map fun p => tyC p.1) (by rw [List.length_map, hn'.out]; exact ownS_below hO'.out hF.out.2.2.2) k (by rw [List.length_map]; exact hkP)
    rw [List.getElem_map] at ct
    have hzk : Hid (ps[k].1.length + ps[k].2.length ≤ 1073741824) := hz'.out _ (List.getElem_mem hkP)
    have hst := fun W (h : FlI W1 ps n k qs W) => fl_step h hlt hkP
    have hst' : Hid (∀ W, FlI W1 ps n k qs W → _) := hst
    clear hst
    generalize ps[k] = p at *
    obtain ⟨t, v⟩ := p
    dsimp only at c3 c4 hzk hst' ct
    obtain ⟨W3, hW3⟩ : ∃ W3, wr.alloc (.cells #[.string (S t), .string (S v)] 64) = W3 := ⟨_, rfl⟩
    have hb3 : Below wr.heap.size wr W3 := by rw [← hW3]; exact (Below.refl _ _).alloc (Nat.le_refl _) _
    have hx3 : W3.heap[wr.heap.size]? = some (.cells #[.string (S t), .string (S v)] 64 (0, 0)) := by rw [← hW3]; exact heap_alloc_new _ _
    have hF3 : Hid (FlI W1 ps n k qs W3) := hF.out.below hb3
    have cd : W3.drew.cell? ⟨tg, k, none⟩ = some (.string (S (tyC t))) ∧ W3.drew.cell? ⟨wr.heap.size, 1, none⟩ = some (.string (S v)) :=
     ⟨(hb3.cell (World.block_lt_of_cell? _ _ ct)).trans ct, (cell_of_row _ _ _ _ _ _ hx3).trans rfl⟩
    have hlt' : Hid (k < n) := hlt
    have hg3 : Hid (W1.heap.size < wr.heap.size) := hF.out.2.2.1.lt
    have htg : Hid (tg < W1.heap.size) := by
     have := ownS_cell (l := ps.map fun p => tyC p.1) (by rw [List.length_map, hn'.out]; exact hO'.out) 0 (by rw [List.length_map, hn'.out]; exact hn8'.out.2)
     exact World.block_lt_of_cell? _ _ this
    have hN : Hid (Calls Tryz.prog 59 #[.string (S v)] W3.drew fun e w' => e = .returned (.string (S (normal v))) ∧ Below W3.drew.heap.size W3.drew w') := by
     have := normal_any (S v) W3.drew (by rw [S_size]; have := hzk.out; omega)
     rw [S_l] at this
     exact this
    have hb3' : Hid (Below W3.heap.size W3 W3.drew) := below_drew _ _
    have hcd8 : Hid (∀ w8, Below W3.drew.heap.size W3.drew w8 → FlI W1 ps n k qs w8 ∧ w8.cell? ⟨tg, k, none⟩ = some (.string (S (tyC t))) ∧ w8.cell? ⟨wr.heap.size, 1, none⟩ = some (.string (S v))) := fun w8 hb8 =>
     ⟨(hF3.out.below hb3'.out).below hb8, (hb8.cell (World.block_lt_of_cell? _ _ cd.1)).trans cd.1, (hb8.cell (World.block_lt_of_cell? _ _ cd.2)).trans cd.2⟩
    have hcd9 : Hid (∀ (w8 W4 : World) (x y : Value), w8.cell? ⟨tg, k, none⟩ = some (.string (S (tyC t))) ∧ w8.cell? ⟨wr.heap.size, 1, none⟩ = some (.string (S v)) → (w8.setCell ⟨W1.heap.size, k * 2, none⟩ x).setCell ⟨W1.heap.size, k * 2 + 1, none⟩ y = W4 → W4.cell? ⟨tg, k, none⟩ = some (.string (S (tyC t))) ∧ W4.cell? ⟨wr.heap.size, 1, none⟩ = some (.string (S v))) := fun w8 W4 x y h hW => by
     have key : ∀ b, b ≠ W1.heap.size → W4.heap[b]? = w8.heap[b]? := fun b hb => by rw [← hW, Below.heap_setCell _ _ _ _ hb, Below.heap_setCell _ _ _ _ hb]
     have h1 := key tg (by have := htg.out; omega)
     have h2 := key wr.heap.size (by have := hg3.out; omega)
     refine ⟨?_, ?_⟩
     ·rw [← h.1]; unfold World.cell?; rw [h1]
     ·rw [← h.2]; unfold World.cell?; rw [h2]
    generalize S (tyC t) = sct at *
    generalize S (normal v) = snv at *
    generalize S t = st at *
    generalize S v = sv' at *
    generalize hgg : W1.heap.size = g at *
    have z0 : 0 + k * 2 = k * 2 := Nat.zero_add _
    have zk : 0 + k = k := Nat.zero_add _
    clear hF hk hlt hkP hx3 hb3 ct hzk hF3 hb3' hg3 htg hok' hO' hsumB
    go_upto_region 8 with fail
    go_region_held3 (fun w' => w'.cell? ⟨tg, k, none⟩ = some (.string sct) ∧ w'.cell? ⟨wr.heap.size, 1, none⟩ = some (.string sv'))
     (first | exact cd9 | exact cd8 | exact cd)
     (first | (go_at_call 59; refine hN.out.mono ?_; rintro e w8 ⟨rfl, hb8⟩; obtain ⟨hF8, cd8⟩ := hcd8.out w8 hb8; obtain ⟨⟨u, v', f1, f2⟩, f3, f4, W4, hW4, hF9⟩ := hst'.out w8 hF8; have cd9 := hcd9.out w8 W4 _ _ cd8 hW4; have HF9 : Hid (FlI W1 ps n (k + 1) (qs.set k (cn (t, v))) W4) := hF9; clear hb8 hF8 hF9))
    clear cd cd8 cd9 f1 f2 f3 f4 hW4 hN hcd8 hcd9 hst'
    go_wp2_with fail
    go_roundw
    case rel => exact ⟨k + 1, _, hlt'.out, by go_num, HF9⟩
    case measure => have := hlt'.out; simp [intOf]; omega
   ·have e : n = k := by omega
    subst e
    have i1 : ¬ (n : Int) < (n : Int) := by omega
    have hqs : Hid (qs = ps.map cn) := by
     have h1 := hF.out.2.1
     rw [List.take_of_length_le (by rw [hF.out.1]; exact Nat.le_refl _), List.take_of_length_le (by rw [hn'.out]; exact Nat.le_refl _)] at h1
     exact h1
    have hS : Hid (Calls Tryz.prog 60 #[.slice (some ⟨W1.heap.size, 0, none⟩) n n, .func (.func 61) #[] #[]] wr fun e w' => e = .returned (.tuple #[]) ∧ ∃ m os, w' = sortWorldK pV 2 wr W1.heap.size 0 m (srtP qs).toArray os) := sort_any W1.heap.size n qs wr hF.out.1 hF.out.2.2.1.holds hF.out.2.2.1.lt hn8'.out.1
    have hrest : Hid (∀ m os, ∃ W5, sortWorldK pV 2 wr W1.heap.size 0 m (srtP qs).toArray os = W5 ∧ Below w.heap.size w W5 ∧ W1.heap.size < W5.heap.size ∧ PRow W5 (some ⟨W1.heap.size, 0, none⟩) (srtP qs)) := fun m os => by
     have hb5 := sorted_below (d := (srtP qs).toArray) (m := m) (os := os) hF.out.2.2.1.lt
     refine ⟨_, rfl, ?_, Nat.lt_of_lt_of_le hF.out.2.2.1.lt hb5.size, sorted_row hF.out.2.2.1⟩
     exact (hb1'.out.trans (hF.out.2.2.2.mono hb1'.out.size)).trans (hb5.mono hb1'.out.size)
    clear hF hk hlt
    go_wp2_with fail
    refine hS.out.mono ?_
    rintro e W5 ⟨rfl, m, os, hW5⟩
    obtain ⟨W5', e5, hb5, hg5, hp5⟩ := hrest.out m os
    have e6 : W5 = W5' := hW5.trans e5
    subst e6
    obtain ⟨W6, hW6⟩ : ∃ W6, W5.alloc (.cells #[.pointer none, .slice none 0 0] 89) = W6 := ⟨_, rfl⟩
    have hb6 : Below W5.heap.size W5 W6 := by rw [← hW6]; exact (Below.refl _ _).alloc (Nat.le_refl _) _
    have hI6 : Wr W5.heap.size W5.heap.size W6 W6 [] W6 := by
     refine ⟨?_, Below.refl _ _, Lr.Kt.refl _, hb6.size⟩
     have h := Lib.fresh_isBuilder 89 5 W5
     rw [hW6] at h
     exact h
    have hrow : ∀ W, Below W5.heap.size W6 W → PRow W (some ⟨W1.heap.size, 0, none⟩) (srtP qs) := fun W hb i hi => by
     obtain ⟨b', o', e', h'⟩ := hp5 i hi
     refine ⟨b', o', e', fun j hj => ?_⟩
     rw [← h' j hj]
     injection e' with e'
     injection e' with e1 e2
     subst e1 e2
     have := (hb.block W1.heap.size hg5).trans (hb6.block W1.heap.size hg5)
     unfold World.cell?
     rw [this]
    have hl : (srtP qs).length = n := by rw [(srt_holds qs).2.1, hqs.out, List.length_map]; exact hn'.out
    have hP : Hid (Calls Tryz.prog 41 #[.pointer (some ⟨W5.heap.size, 0, none⟩), .slice (some ⟨W1.heap.size, 0, none⟩) n n] W6 fun e w' => e = .returned (.tuple #[]) ∧ Wr W5.heap.size W5.heap.size W6 W6 ([] ++ ptx (srtP qs)) w') := writePairs_any _ _ [] _ n n (srtP qs) W6 W6 W6 hI6 hl hrow (by rw [hqs.out]; have := hsumB.out hok'.out.2; simp only [List.length_nil]; omega) (by omega)
    have hB6 : Hid (Below w.heap.size w W6 ∧ w.heap.size ≤ W5.heap.size) := ⟨hb5.trans (hb6.mono hb5.size), hb5.size⟩
    have hfin : Hid (ptx (srtP qs) = keyTx ps) := by unfold Hid keyTx; rw [hqs.out]
    clear hp5 hg5 hb5 hW5 e5 hb6 hI6 hrow hl hS hrest hqs hO'
    go_wp2_with fail
    refine hP.out.mono ?_
    rintro e W7 ⟨rfl, h7⟩
    have hS7 : Hid (Calls Tryz.prog 43 #[.pointer (some ⟨W5.heap.size, 0, none⟩)] W7 fun e w' => e = .returned (.string (S (keyTx ps))) ∧ Below W5.heap.size W7 w') := by
     have := bString_any _ _ _ W7 h7.1 (Nat.le_trans h7.2.2.2 h7.2.1.size)
     rw [List.nil_append, hfin.out] at this
     exact this
    have hB7 : Hid (Below w.heap.size w W7 ∧ w.heap.size ≤ W5.heap.size) := ⟨hB6.out.1.trans (h7.2.1.mono hB6.out.2), hB6.out.2⟩
    clear hP h7 hB6 hfin hW6
    go_wp2_with fail
    refine hS7.out.mono ?_
    rintro e W8 ⟨rfl, h8⟩
    have hfin : Hid (KtF ev w ps num (.returned (.tuple #[.string (S (keyTx ps)), .nilIface])) W8) := ⟨hB7.out.1.trans (h8.mono hB7.out.2), Or.inl ⟨hok'.out.1, hok'.out.2, rfl⟩⟩
    clear hS7 h8 hB7
    go_wp2_with fail
    go_ret2
    exact hfin.out
 ·have hno' : Hid (cer ps num ≠ 0) := hno
  obtain ⟨t, u, htu⟩ : ∃ t u, refV ev (cer ps num) num = .iface t u := ⟨_, _, rfl⟩
  have hfin : Hid (KtF ev w ps num (.returned (.tuple #[.string ⟨#[]⟩, .iface t u])) W1) := ⟨hb1, Or.inr ⟨hno, by rw [htu]⟩⟩
  rw [htu]
  clear hno hC
  go_wp2_with fail
  go_ret2
  exact hfin.out
end Ke
end Go.Proofs.YtkknenmpdimdbaaGreatDoor

namespace Go.Proofs.YtkknenmpdimdbaaGreatDoor
namespace Ke
open Go.RowKit Go.Lib Go.Sort
open TextMath (fold lo normal check)
open Du (PRow DRow PX sd sd_len drow_at pV pV_len)
set_option linter.unusedVariables false
set_option linter.unusedSimpArgs false
set_option maxRecDepth 100000
def Frs (D : List (List PR)) (k : Nat) : Prop := ∃ h : k < D.length, (∀ j (h' : j < k), cer (D[j]'(by omega)) (j : Int) = 0) ∧ cer D[k] (k : Int) ≠ 0
def KeyF (ev : Nat → TypeId × Value) (w : World) (D : List (List PR)) (n : Nat) (e : Ending) (w' : World) : Prop :=
 Below w.heap.size w w' ∧ ((OkD D ∧ ∃ ka kc, e = .returned (.tuple #[.slice ka n kc, .nilIface]) ∧ OwnS w' w.heap.size (.slice ka n kc) (keys D)) ∨ (∃ k, ∃ h : k < D.length, Frs D k ∧ e = .returned (.tuple #[.slice none 0 0, refV ev (cer D[k] (k : Int)) (k : Int)])))
set_option maxHeartbeats 4000000 in
theorem key_F (ev : Nat → TypeId × Value) (sa : Option Addr) (sc n : Nat) (L : List PX) (w : World) (hG : ErrsF ev w) (hn : L.length = n) (hr : DRow w sa L) (hz : ∀ r ∈ L, ∀ p ∈ r.2.2, p.1.length + p.2.length ≤ 1073741824) (hzl : ∀ r ∈ L, r.2.2.length ≤ 1073741824) (hnb : n ≤ 1073741824) :
  Calls Tryz.prog 13 #[.slice sa n sc] w fun e w' => KeyF ev w (sd L) n e w' := by
 have nb : (n : Int) ≤ 1073741824 := by omega
 have hn' : Hid (L.length = n) := hn
 have hr' : Hid (DRow w sa L) := hr
 have hG' : Hid (ErrsF ev w) := hG
 have hz' : Hid ((∀ r ∈ L, ∀ p ∈ r.2.2, p.1.length + p.2.length ≤ 1073741824) ∧ ∀ r ∈ L, r.2.2.length ≤ 1073741824) := ⟨hz, hzl⟩
 clear hG hn hr hz hzl hnb
 go_enter Tryz.func13, Tryz.ntmps13
 go_wp2_with fail
 go_loopw [4, 11] (fun kv iv wr => ∃ (k : Nat) (ka : Option Addr) (kc : Nat), k ≤ n ∧ iv = .int .i64 (k : Int) ∧ kv = .slice ka k kc ∧ Hid ((k ≤ 64) ∧ (∀ j (h : j < L.length), j < k → OkP L[j].2.2) ∧ OwnS wr w.heap.size (.slice ka k kc) (((sd L).take k).map keyTx) ∧ Below w.heap.size w wr)) (fun _ iv _ => n - (intOf iv).toNat)
 case atStart => exact ⟨0, none, 0, Nat.zero_le _, rfl, rfl, by omega, fun j _ hj => by omega, ownS_nil _ _, Below.refl _ _⟩
 case round =>
  obtain ⟨k, ka, kc, hk, rfl, rfl, hR⟩ := hrel
  have k0 : (0 : Int) ≤ (k : Int) := Int.natCast_nonneg _
  by_cases hlt : k < n
  ·have k1 : (k : Int) < (n : Int) := Int.ofNat_lt.2 hlt
   have hkL : k < L.length := by rw [hn'.out]; exact hlt
   have hRw := hr'.out.below hR.out.2.2.2
   obtain ⟨b, off, rfl, c1⟩ := drow_at hRw k hkL
   have hT : Hid (Calls Tryz.prog 32 #[.slice L[k].1 L[k].2.2.length L[k].2.1, .int .i64 (k : Int)] wr fun e w' => KtF ev wr L[k].2.2 (k : Int) e w') := keyText_F ev _ _ _ _ _ wr (hG'.out.below hR.out.2.2.2) rfl (hRw.2 _ (List.getElem_mem hkL)).1 (hz'.out.1 _ (List.getElem_mem hkL)) (by have := hz'.out.2 _ (List.getElem_mem hkL); omega)
   have hbad : Hid (cer L[k].2.2 (k : Int) ≠ 0 → ∃ h : k < (sd L).length, Frs (sd L) k ∧ cer (sd L)[k] (k : Int) = cer L[k].2.2 (k : Int)) := fun h => by
    have hk' : k < (sd L).length := by rw [sd_len]; exact hkL
    have e : (sd L)[k] = L[k].2.2 := sd_at L k hkL
    refine ⟨hk', ⟨hk', fun j hj => ?_, by rw [e]; exact h⟩, by rw [e]⟩
    rw [sd_at L j (by omega)]
    unfold cer
    rw [if_neg (by have := hR.out.1; omega)]
    exact rer_ok (hR.out.2.1 j (by omega) hj)
   have hsn : Hid (((sd L).take (k + 1)).map keyTx = ((sd L).take k).map keyTx ++ [keyTx L[k].2.2]) := by
    unfold Hid
    rw [List.take_succ_eq_append_getElem (by rw [sd_len]; exact hkL), List.map_append, sd_at]
    rfl
   have hok : Hid (OkP L[k].2.2 → ∀ j (h : j < L.length), j < k + 1 → OkP L[j].2.2) := fun h j hj hjk => by
    by_cases e : j = k
    ·subst e; exact h
    ·exact hR.out.2.1 j hj (by omega)
   have hlt' : Hid (k < n) := hlt
   generalize L[k] = r at *
   obtain ⟨pa, pc, ps⟩ := r
   dsimp only at c1 hT hbad hsn hok
   generalize ps.length = m at *
   clear hk hlt hkL hRw
   go_wp2_with fail
   refine hT.out.mono ?_
   rintro e W1 ⟨hb1, ⟨h64, hokp, rfl⟩ | ⟨hno, rfl⟩⟩
   ·have hk64 : Hid (k + 1 ≤ 64) := by unfold Hid; omega
    have hb1' : Hid (Below wr.heap.size wr W1) := hb1
    have hlk : Hid ((((sd L).take k).map keyTx).length = k) := by
     unfold Hid
     rcases ownS_formD hR.out.2.2.1 with ⟨h0, h1⟩ | ⟨g, cap, h0, _⟩
     ·injection h0 with _ h0; rw [h1, h0]; rfl
     ·injection h0 with _ h0; exact h0.symm
    obtain ⟨v3, W3, e3', o3, b3⟩ := append_row (W1.alloc (.cells #[.string (S (keyTx ps))] 9)) w.heap.size (.slice ka k kc) (((sd L).take k).map keyTx) [keyTx ps] (some ⟨W1.heap.size, 0, none⟩) 1 1 (ownS_below (ownS_below hR.out.2.2.1 hb1) ((Below.refl _ _).alloc (Nat.le_refl _) _)) (row_one _ _) rfl (by have := hR.out.2.2.2.size; have := hb1.size; simp; omega) (by rw [hlk.out]; have := hk64.out; simp; omega)
    obtain ⟨ka', kc', rfl, _⟩ : ∃ ka' kc', v3 = .slice ka' (k + 1) kc' ∧ True := by
     have hl3 : (((sd L).take k).map keyTx ++ [keyTx ps]).length = k + 1 := by rw [List.length_append, hlk.out]; rfl
     rcases ownS_formD o3 with ⟨_, h0⟩ | ⟨g, cap, e, _⟩
     ·rw [h0] at hl3; simp at hl3
     ·exact ⟨_, _, by rw [e, hl3], trivial⟩
    have hfin : Hid ((k + 1 ≤ 64) ∧ (∀ j (h : j < L.length), j < k + 1 → OkP L[j].2.2) ∧ OwnS W3 w.heap.size (.slice ka' (k + 1) kc') (((sd L).take (k + 1)).map keyTx) ∧ Below w.heap.size w W3) := by
     refine ⟨hk64.out, hok.out hokp, by rw [hsn.out]; exact o3, ?_⟩
     have hbw : Below w.heap.size w W1 := hR.out.2.2.2.trans (hb1.mono hR.out.2.2.2.size)
     exact (hbw.alloc hbw.size _).trans b3
    generalize S (keyTx ps) = sk at *
    clear o3 b3 hok hokp h64 hb1 hb1' hlk hR hT hbad hsn hk64
    go_wp2_with (at_builtin; refine Lib.wpList_append_run _ rfl _ _ _ _ rfl _ _ rfl rfl _ _ e3' ?_; clear e3')
    go_roundw
    case rel => exact ⟨k + 1, ka', kc', hlt'.out, by go_num, rfl, hfin⟩
    case measure => have := hlt'.out; simp [intOf]; omega
   ·obtain ⟨t, u, htu⟩ : ∃ t u, refV ev (cer ps (k : Int)) (k : Int) = .iface t u := ⟨_, _, rfl⟩
    have hfin : Hid (KeyF ev w (sd L) n (.returned (.tuple #[.slice none 0 0, .iface t u])) W1) := by
     obtain ⟨q1, q2, q3⟩ := hbad.out hno
     exact ⟨hR.out.2.2.2.trans (hb1.mono hR.out.2.2.2.size), Or.inr ⟨k, q1, q2, by rw [q3, htu]⟩⟩
    rw [htu]
    clear hno hb1 hbad hsn hok hR hT
    go_wp2_with fail
    go_ret2
    exact hfin.out
  ·have e : n = k := by omega
   subst e
   have i1 : ¬ (n : Int) < (n : Int) := by omega
   have hlk : Hid ((sd L).take n = sd L) := List.take_of_length_le (by rw [sd_len, hn'.out]; exact Nat.le_refl _)
   have hV : Hid (Calls Tryz.prog 33 #[.slice ka n kc] wr fun e w' => e = .returned (.tuple #[]) ∧ OwnS w' w.heap.size (.slice ka n kc) (keys (sd L)) ∧ Below w.heap.size wr w') := by
    have h := rev_own wr w.heap.size (.slice ka n kc) _ hR.out.2.2.1 (by rw [List.length_map, List.length_take]; have := hR.out.1; omega)
    rw [hlk.out] at h
    exact h
   have hD : Hid (OkD (sd L)) := by
    refine ⟨by rw [sd_len, hn'.out]; exact hR.out.1, fun r hr => ?_⟩
    obtain ⟨j, hj, rfl⟩ := List.getElem_of_mem hr
    rw [sd_len] at hj
    rw [sd_at L j hj]
    exact hR.out.2.1 j hj (by rw [← hn'.out]; exact hj)
   have hBw : Hid (Below w.heap.size w wr) := hR.out.2.2.2
   clear hR hk hlt hlk
   go_wp2_with fail
   refine hV.out.mono ?_
   rintro e W2 ⟨rfl, ho, hb⟩
   have hfin : Hid (KeyF ev w (sd L) n (.returned (.tuple #[.slice ka n kc, .nilIface])) W2) := ⟨hBw.out.trans hb, Or.inl ⟨hD.out, ka, kc, rfl, ho⟩⟩
   clear ho hb hV hBw
   go_wp2_with fail
   go_ret2
   exact hfin.out
end Ke
end Go.Proofs.YtkknenmpdimdbaaGreatDoor
