import Derived.Test.YtfpphhbpoaobfaaGreatDoorGPL
import Derived.Test.YtfpphhbpoaobfaaGreatDoorGO
import Derived.Test.YtfpphhbpoaobfaaGreatDoorGLrB
namespace Go.Proofs.YtfpphhbpoaobfaaGreatDoor
open Go.RowKit
open LdMath

def szOfF : Value → Nat
  | .string s => s.size
  | _ => 0

set_option maxRecDepth 100000 in
set_option maxHeartbeats 2000000 in
theorem writeFolded_any (B b : Nat) (l t : List UInt8) (k : Nat) (w : World) (hI : IsB B b l w) (hBw : B ≤ w.heap.size) (hk : 2 ≤ k) (hk2 : k ≤ 9223372036854775807) (hl : l.length ≤ 1073741824) (ht : t.length ≤ 10485760) :
    Calls Tryz.prog 33 #[.pointer (some ⟨b, 0, none⟩), .string (S t), .int .i64 (k : Int)] w fun e w' => e = .returned (.tuple #[]) ∧ IsB B b (l ++ fld k t) w' ∧ Below B w w' := by
  obtain ⟨n, hn⟩ : ∃ n, t.length = n := ⟨_, rfl⟩
  obtain ⟨T, hT⟩ : ∃ T, S t = T := ⟨_, rfl⟩
  have hTs : T.size = n := by rw [← hT, S_size, hn]
  obtain ⟨e, he⟩ : ∃ e, min k n = e := ⟨_, rfl⟩
  have m1 : min (k : Int) (n : Int) = (e : Int) := by omega
  have e0 : (0 : Int) ≤ (e : Int) := Int.natCast_nonneg _
  have e1 : (e : Int) ≤ (n : Int) := by omega
  have htd : T.data.toList = t := by rw [← hT, S_l]
  have hx1 : (T.extract 0 e).data.toList = rf k t e := by rw [take_l, htd, rf_front k t e (by omega) (by omega)]
  have hx1s : (T.extract 0 e).size = e := by rw [← size_l, hx1, rf_front k t e (by omega) (by omega), List.length_take]; omega
  have hws : Hid (Calls Tryz.prog 26 #[.pointer (some ⟨b, 0, none⟩), .string (T.extract 0 e)] w fun r w' => r = .returned (.tuple #[.int .i64 ((T.extract 0 e).size : Int), .nilIface]) ∧ IsB B b (l ++ rf k t e) w' ∧ Below B w w') := by
    have := writeString_any B b l (T.extract 0 e) w hI (by omega) hBw
    rw [hx1] at this
    exact this
  have hx2 : T.extract e n = S (t.drop e) := by refine S_eq _ _ ?_; rw [← hTs, drop_l, htd]
  have hP0 : Hid (e ≤ n ∧ (e = n ∨ (k ≤ e ∧ (e - k) % (k - 1) = 0))) := by
    refine ⟨by omega, ?_⟩
    by_cases h : n ≤ k
    · exact .inl (by omega)
    · have : e = k := by omega
      subst this
      exact .inr ⟨Nat.le_refl _, by simp⟩
  have hkk : wrap64 ((k : Int) - 1) = ((k - 1 : Nat) : Int) := by unfold wrap64; omega
  obtain ⟨j, hj⟩ : ∃ j, k - 1 = j := ⟨_, rfl⟩
  rw [hj] at hkk
  have hkk2 : (k : Int) - 1 = (j : Int) := by omega
  have hH : Hid (t.length = n ∧ n ≤ 10485760 ∧ 2 ≤ k ∧ k - 1 = j ∧ l.length ≤ 1073741824 ∧ B ≤ w.heap.size) := ⟨hn, by omega, hk, hj, hl, hBw⟩
  rw [hT]
  rw [hx1s] at hws
  clear hI hBw hk hl ht hn hT he htd hx1 hx1s hj
  go_enter Tryz.func33, Tryz.ntmps33
  go_wp2_with (go_at_call 26; refine hws.out.mono ?_; rintro r w1 ⟨rfl, hI1, hb1⟩)
  have hI1' : Hid (IsB B b (l ++ rf k t e) w1) := hI1
  have hb1' : Hid (Below B w w1) := hb1
  clear hI1 hb1 hws m1 e0 e1
  first | rw [hx2] | skip
  go_loopw [7] (fun rv wr => ∃ p : Nat, Hid (p ≤ n ∧ (p = n ∨ (k ≤ p ∧ (p - k) % (k - 1) = 0))) ∧ rv = .string (S (t.drop p)) ∧ Hid (IsB B b (l ++ rf k t p) wr) ∧ Hid (Below B w wr)) (fun rv _ => szOfF rv)
  case atStart => exact ⟨e, hP0, rfl, hI1', hb1'⟩
  case round =>
    obtain ⟨p, hp, rfl, hIp, hBp⟩ := hrel
    obtain ⟨h1, h2, h3, h4, h5, h6⟩ := hH.out
    have hbz : B ≤ wr.heap.size := Nat.le_trans h6 hBp.out.size
    have hrl := rf_len k t p
    by_cases hpn : p = n
    · have hre : S (t.drop p) = (⟨#[]⟩ : ByteArray) := by rw [List.drop_of_length_le (by omega)]; rfl
      rw [hre]
      have hwb : Hid (Calls Tryz.prog 28 #[.pointer (some ⟨b, 0, none⟩), .int .u8 10] wr fun r w' => r = .returned .nilIface ∧ IsB B b (l ++ fld k t) w' ∧ Below B wr w') := by
        have := writeByte_any B b (l ++ rf k t p) 10 wr hIp.out (by rw [List.length_append]; have := hp.out.1; omega) hbz
        unfold fld
        rw [h1, ← hpn, ← List.append_assoc]
        exact this
      clear hp hIp hP0 h1 h2 h3 h4 h5 h6 hbz hrl hI1' hb1' hre hpn
      go_wp2_with (go_at_call 28; refine hwb.out.mono ?_; rintro r w2 ⟨rfl, hI2, hb2⟩)
      go_end0
      exact ⟨rfl, hI2, hBp.out.trans hb2⟩
    · obtain ⟨hpl, hpm⟩ := hp.out
      have hpm2 : k ≤ p ∧ (p - k) % (k - 1) = 0 := hpm.resolve_left hpn
      obtain ⟨m, hm⟩ : ∃ m, n - p = m := ⟨_, rfl⟩
      obtain ⟨q, hq⟩ : ∃ q, min j m = q := ⟨_, rfl⟩
      obtain ⟨R, hR⟩ : ∃ R, S (t.drop p) = R := ⟨_, rfl⟩
      have hRs : R.size = m := by rw [← hR, S_size, List.length_drop]; omega
      have hRd : R.data.toList = t.drop p := by rw [← hR, S_l]
      have hRe : R.toList.isEmpty = false := by
        rw [← hR, toList_S]
        cases hd : t.drop p with
        | nil => have := congrArg List.length hd; rw [List.length_drop] at this; simp at this; omega
        | cons a b => rfl
      have mq : min (j : Int) (m : Int) = (q : Int) := by omega
      have q0 : (0 : Int) ≤ (q : Int) := Int.natCast_nonneg _
      have q1 : (q : Int) ≤ (m : Int) := by omega
      have hx3 : (R.extract 0 q).data.toList = (t.drop p).take q := by rw [take_l, hRd]
      have hx3s : (R.extract 0 q).size = q := by rw [← size_l, hx3, List.length_take, List.length_drop]; omega
      have hx4 : R.extract q m = S (t.drop (p + q)) := by refine S_eq _ _ ?_; rw [← hRs, drop_l, hRd, List.drop_drop]
      have hnx := rf_next k t p h3 hpm2.1 hpm2.2 q (by omega) (by omega) (by omega)
      have hw1 : Hid (Calls Tryz.prog 26 #[.pointer (some ⟨b, 0, none⟩), .string ⟨#[10, 32]⟩] wr fun r w' => r = .returned (.tuple #[.int .i64 2, .nilIface]) ∧ IsB B b (l ++ rf k t p ++ [10, 32]) w' ∧ Below B wr w') := by
        have := writeString_any B b (l ++ rf k t p) ⟨#[10, 32]⟩ wr hIp.out (by rw [List.length_append, show (⟨#[10, 32]⟩ : ByteArray).size = 2 from rfl]; omega) hbz
        exact this
      have hw2 : ∀ W, IsB B b (l ++ rf k t p ++ [10, 32]) W → B ≤ W.heap.size → Hid (Calls Tryz.prog 26 #[.pointer (some ⟨b, 0, none⟩), .string (R.extract 0 q)] W fun r w' => r = .returned (.tuple #[.int .i64 (q : Int), .nilIface]) ∧ IsB B b (l ++ rf k t (p + q)) w' ∧ Below B W w') := fun W hW hz => by
        have := writeString_any B b (l ++ rf k t p ++ [10, 32]) (R.extract 0 q) W hW (by rw [List.length_append, List.length_append, hx3s]; simp; omega) hz
        rw [hx3, hx3s] at this
        unfold Hid
        rw [hnx]
        rw [List.append_assoc, List.append_assoc] at this
        exact this
      have hw2' : Hid (∀ W, IsB B b (l ++ rf k t p ++ [10, 32]) W → B ≤ W.heap.size → Hid (Calls Tryz.prog 26 #[.pointer (some ⟨b, 0, none⟩), .string (R.extract 0 q)] W fun r w' => r = .returned (.tuple #[.int .i64 (q : Int), .nilIface]) ∧ IsB B b (l ++ rf k t (p + q)) w' ∧ Below B W w')) := hw2
      have hpn' : Hid (p + q ≤ n ∧ (p + q = n ∨ (k ≤ p + q ∧ (p + q - k) % (k - 1) = 0))) := by
        refine ⟨by omega, ?_⟩
        by_cases hc : j ≤ m
        · refine .inr ⟨by omega, ?_⟩
          have e1 : p + q - k = (p - k) + (k - 1) := by omega
          rw [e1, Nat.add_mod_right]
          exact hpm2.2
        · exact .inl (by omega)
      have hsz : Hid (szOfF (.string (S (t.drop (p + q)))) < R.size) := by
        unfold Hid
        show (S _).size < _
        rw [S_size, List.length_drop, hRs]
        omega
      have hbz' : Hid (B ≤ wr.heap.size) := hbz
      rw [hR]
      clear hp hIp hP0 h1 h2 h3 h4 h5 h6 hbz hrl hI1' hb1' hpn hpl hpm hpm2 hm hq hR hRd hx3 hx3s hnx hw2
      go_wp2_with (go_at_call 26; first | (refine hw1.out.mono ?_; clear hw1; rintro r w2 ⟨rfl, hI2, hb2⟩; have hw3 := hw2'.out w2 hI2 (Nat.le_trans hbz'.out hb2.size)) | (refine hw3.out.mono ?_; rintro r w3 ⟨rfl, hI3, hb3⟩))
      first | rw [hx4] | skip
      go_roundw
      case rel => exact ⟨p + q, hpn', rfl, hI3, hBp.out.trans (hb2.trans hb3)⟩
      case measure => exact hsz.out
end Go.Proofs.YtfpphhbpoaobfaaGreatDoor

namespace Go.Proofs.YtfpphhbpoaobfaaGreatDoor
open Go.RowKit
open LdMath

/-- What Refold answers. -/
def rfT (PL : List (Nat × List UInt8)) (d : Int) : List UInt8 := if d < 2 then [] else flds d.toNat (outL PL)
def rfE (PL : List (Nat × List UInt8)) (d : Int) : Nat × Nat := if d < 2 then (1, 0) else outE PL
theorem ferr_val : ∀ (l : List (Nat × List UInt8)) (a : List UInt8) (p : Nat × Nat), ferr a l = some p → p.1 = 70 ∨ p.1 = 71
  | [], _, _, h => by cases h
  | x :: l, a, p, h => by
    unfold ferr at h
    cases hf : flt a x.2 with
    | none => rw [hf] at h; exact ferr_val l x.2 p h
    | some e =>
      rw [hf] at h
      injection h with h
      subst h
      unfold flt at hf
      split at hf
      · injection hf with hf; exact .inl hf.symm
      · split at hf
        · injection hf with hf; exact .inr hf.symm
        · cases hf
theorem isB_alloc {B b : Nat} {l : List UInt8} {w : World} (h : IsB B b l w) (o : Obj) : IsB B b l (w.alloc o) := by
  have key : ∀ p, Lib.BuilderAt 66 5 B b p (bv l) w → Lib.BuilderAt 66 5 B b p (bv l) (w.alloc o) := by
    rintro p ⟨hB, v, hb, hown, hne⟩
    exact ⟨hB, v, (Below.heap_alloc _ _ _ (Array.getElem?_eq_some_iff.1 hb).1).trans hb, hown.alloc _, hne⟩
  exact h.elim (fun x => .inl (key _ x)) (fun x => .inr (key _ x))
theorem take_nextF {α : Type} (L : List α) (i : Nat) (h : i < L.length) : L.take (i + 1) = L.take i ++ [L[i]] := List.take_succ_eq_append_getElem h
theorem flds_take (k : Nat) (L : List (Nat × List UInt8)) (i : Nat) (h : i < L.length) : flds k (L.take (i + 1)) = flds k (L.take i) ++ fld k L[i].2 := by rw [take_nextF L i h, flds_snoc]

set_option maxRecDepth 100000 in
set_option maxHeartbeats 2000000 in
theorem refold_any (s : ByteArray) (hs : s.size ≤ 10485760) (d : Int) (hd : d ≤ 9223372036854775807) (w : World) :
    Calls Tryz.prog 21 #[.string s, .int .i64 d] w fun e w' => e = .returned (.tuple #[.string (S (rfT (phys s.data.toList) d)), .int .i64 ((rfE (phys s.data.toList) d).1 : Int), .int .i64 ((rfE (phys s.data.toList) d).2 : Int)]) ∧ Below w.heap.size w w' := by
  by_cases h2 : d < 2
  · have e1 : rfT (phys s.data.toList) d = [] := by unfold rfT; rw [if_pos h2]
    have e2 : rfE (phys s.data.toList) d = (1, 0) := by unfold rfE; rw [if_pos h2]
    rw [e1, e2]
    go_enter Tryz.func21, Tryz.ntmps21
    go_wp2_with fail
    go_ret3
    exact ⟨rfl, Below.refl _ _⟩
  · obtain ⟨k, rfl⟩ : ∃ k : Nat, d = (k : Int) := ⟨d.toNat, by omega⟩
    have hk : 2 ≤ k := by omega
    have hk2 : k ≤ 9223372036854775807 := by omega
    have e1 : rfT (phys s.data.toList) (k : Int) = flds k (outL (phys s.data.toList)) := by unfold rfT; rw [if_neg h2, Int.toNat_natCast]
    have e2 : rfE (phys s.data.toList) (k : Int) = outE (phys s.data.toList) := by unfold rfE; rw [if_neg h2]
    rw [e1, e2]
    have hU : Hid (Calls Tryz.prog 22 #[.string s] w fun e w' => ∃ v er ln, e = .returned (.tuple #[v, .agg #[.int .i64 ((er : Nat) : Int), .int .i64 ((ln : Nat) : Int)]]) ∧ UnfIs s.data.toList w.heap.size w' v er ln ∧ Below w.heap.size w w') := unfold_any s hs w
    have hlenP : (outL (phys s.data.toList)).length ≤ 10485761 := outL_len s hs
    have htot : ltot (outL (phys s.data.toList)) ≤ 10485760 := by
      have h1 := joinS_ltot (phys s.data.toList)
      have h2 := phys_tot s.data.toList
      rw [size_l] at h2
      unfold outL
      split
      · exact Nat.zero_le _
      · omega
    obtain ⟨PL, hPL⟩ : ∃ PL, phys s.data.toList = PL := ⟨_, rfl⟩
    unfold UnfIs at hU
    rw [hPL] at hU hlenP htot ⊢
    obtain ⟨L, hL⟩ : ∃ L, outL PL = L := ⟨_, rfl⟩
    obtain ⟨n, hn⟩ : ∃ n, L.length = n := ⟨_, rfl⟩
    obtain ⟨ex, hex⟩ : ∃ ex, (outE PL).1 = ex := ⟨_, rfl⟩
    obtain ⟨ey, hey⟩ : ∃ ey, (outE PL).2 = ey := ⟨_, rfl⟩
    have hor : (ex = 70 ∨ ex = 71) ∧ L = [] ∨ ex = 0 ∧ ey = 0 := by
      rw [← hex, ← hey, ← hL]
      unfold outE outL
      cases hf : ferr [] PL with
      | some p => exact .inl ⟨ferr_val PL [] p hf, rfl⟩
      | none => exact .inr ⟨rfl, rfl⟩
    rw [hL] at hlenP htot ⊢
    rw [hex, hey]
    have hU' : Hid (Calls Tryz.prog 22 #[.string s] w fun e w' => ∃ a c, e = .returned (.tuple #[.slice a n c, .agg #[.int .i64 (ex : Int), .int .i64 (ey : Int)]]) ∧ LinR w' a L ∧ Below w.heap.size w w') := by
      refine hU.out.mono ?_
      rintro e w' ⟨v, er, ln, rfl, h1, h2⟩
      obtain ⟨⟨a, c, rfl, h3⟩, rfl, rfl⟩ := unf_out h1
      rw [hL] at h3 ⊢
      rw [hn, hex, hey]
      exact ⟨a, c, rfl, h3, h2⟩
    have hH : Hid (L.length = n ∧ n ≤ 10485761 ∧ ltot L ≤ 10485760 ∧ 2 ≤ k ∧ k ≤ 9223372036854775807) := ⟨hn, by omega, htot, hk, hk2⟩
    have hk3 : ¬ ((k : Int) < 2) := h2
    clear hU hL hex hey hlenP htot hPL e1 e2 hn hk2 hs
    rcases hor with ⟨hor, rfl⟩ | ⟨rfl, rfl⟩
    · have hx0 : ((ex : Int) != 0) = true := by simp only [bne_iff_ne, ne_eq]; omega
      have hfl : Hid (flds k ([] : List (Nat × List UInt8)) = []) := rfl
      clear hor
      go_enter Tryz.func21, Tryz.ntmps21
      go_upto_region 5 with (go_at_call 22; refine hU'.out.mono ?_; rintro e w1 ⟨a, c, rfl, hR, hb1⟩)
      obtain ⟨W2, hW2⟩ : ∃ W2, w1.alloc (.cells #[.int .i64 (ex : Int), .int .i64 (ey : Int)] 56) = W2 := ⟨_, rfl⟩
      rw [hW2]
      have g2 : W2.heap[w1.heap.size]? = some (.cells #[.int .i64 (ex : Int), .int .i64 (ey : Int)] 56 (0, 0)) := by rw [← hW2]; exact heap_alloc_last w1 _
      have c0 : W2.cell? ⟨w1.heap.size, 0, none⟩ = some (.int .i64 (ex : Int)) := by rw [cell_of_row W2 _ 0 _ _ _ g2]; rfl
      have c1 : W2.cell? ⟨w1.heap.size, 1, none⟩ = some (.int .i64 (ey : Int)) := by rw [cell_of_row W2 _ 1 _ _ _ g2]; rfl
      have hb2 : Below w1.heap.size w1 W2 := by rw [← hW2]; exact (Below.refl _ _).alloc (Nat.le_refl _) _
      clear hW2 g2 hU' hR
      go_region_held3 (fun w' => w'.cell? ⟨w1.heap.size, 0, none⟩ = some (.int .i64 (ex : Int)) ∧ w'.cell? ⟨w1.heap.size, 1, none⟩ = some (.int .i64 (ey : Int)))
        (go_keep)
        (fail)
      go_wp2_with fail
      go_ret3
      have hb3 : Below w1.heap.size w1 W2.drew := hb2.drew
      exact ⟨rfl, hb1.trans (hb3.mono hb1.size)⟩
    · go_enter Tryz.func21, Tryz.ntmps21
      go_wp2_with (go_at_call 22; refine hU'.out.mono ?_; rintro e w1 ⟨a, c, rfl, hR, hb1⟩)
      have hI0 : IsB (w1.heap.size + 1) (w1.heap.size + 1) [] ((w1.alloc (.cells #[.int .i64 0, .int .i64 0] 56)).alloc (.cells #[.pointer none, .slice none 0 0] 66)) := by
        have h := Lib.fresh_isBuilder 66 5 (w1.alloc (.cells #[.int .i64 0, .int .i64 0] 56))
        rw [World.size_alloc] at h
        exact h
      obtain ⟨W3, hW3⟩ : ∃ W3, (w1.alloc (.cells #[.int .i64 0, .int .i64 0] 56)).alloc (.cells #[.pointer none, .slice none 0 0] 66) = W3 := ⟨_, rfl⟩
      rw [hW3] at hI0 ⊢
      have hb3 : Below w1.heap.size w1 W3 := by rw [← hW3]; exact ((Below.refl _ _).alloc (Nat.le_refl _) _).alloc (by simp) _
      have hs3 : W3.heap.size = w1.heap.size + 2 := by rw [← hW3]; simp
      obtain ⟨bb, hbb⟩ : ∃ bb, w1.heap.size + 1 = bb := ⟨_, rfl⟩
      rw [hbb] at hI0 ⊢
      have hK : Hid (LinR w1 a L ∧ Below w.heap.size w w1 ∧ Below w1.heap.size w1 W3 ∧ W3.heap.size = w1.heap.size + 2 ∧ w1.heap.size + 1 = bb) := ⟨hR, hb1, hb3, hs3, hbb⟩
      have hI0' : Hid (IsB bb bb [] W3) := hI0
      clear hR hb1 hb3 hs3 hbb hI0 hW3 hU'
      go_loopw [28] (fun iv wr => ∃ i : Nat, i ≤ n ∧ iv = .int .i64 (i : Int) ∧ Hid (IsB bb bb (flds k (L.take i)) wr) ∧ Hid (Below bb W3 wr)) (fun iv _ => n - (intOf iv).toNat)
      case atStart => exact ⟨0, Nat.zero_le _, rfl, hI0', Below.refl _ _⟩
      case round =>
        obtain ⟨i, hle, rfl, hIi, hB⟩ := hrel
        clear hI0'
        obtain ⟨h1, h2, h3, h4, h5⟩ := hH.out
        obtain ⟨k1, k2, k3, k4, k5⟩ := hK.out
        have hBw : Below w1.heap.size w1 wr := k3.trans (hB.out.mono (by omega))
        have hHB : Hid (Below w.heap.size w wr) := k2.trans (hBw.mono k2.size)
        have hwz : bb ≤ wr.heap.size := by have := hB.out.size; omega
        have i0 : (0 : Int) ≤ (i : Int) := Int.natCast_nonneg _
        have i1 : (i : Int) < 10485762 := by omega
        by_cases hlt : i < n
        · have hiL : i < L.length := by omega
          obtain ⟨g, rfl, c0, c1⟩ := (k1.below hBw) i hiL
          obtain ⟨z, hz⟩ : ∃ z, (L[i].1 : Int) = z := ⟨_, rfl⟩
          obtain ⟨x, hx⟩ : ∃ x, L[i].2 = x := ⟨_, rfl⟩
          rw [hz] at c0
          rw [hx] at c1
          have hft := flds_take k L i hiL
          rw [hx] at hft
          have hxl : x.length ≤ 10485760 := by
            have h6 := ltot_pre (List.take_prefix (i + 1) L)
            rw [take_nextF L i hiL, ltot_snoc, hx] at h6
            omega
          have hfl : (flds k (L.take i)).length ≤ 1073741824 := by
            have h6 := flds_len k (L.take i)
            have h7 := ltot_pre (List.take_prefix i L)
            rw [List.length_take] at h6
            omega
          obtain ⟨Wb, hWb⟩ : ∃ Wb, wr.alloc (.cells #[.int .i64 z, .string (S x)] 40) = Wb := ⟨_, rfl⟩
          have hIb : IsB bb bb (flds k (L.take i)) Wb := by rw [← hWb]; exact isB_alloc hIi.out _
          have hbW : Below bb wr Wb := by rw [← hWb]; exact (Below.refl _ _).alloc hwz _
          have gW : Wb.heap[wr.heap.size]? = some (.cells #[.int .i64 z, .string (S x)] 40 (0, 0)) := by rw [← hWb]; exact heap_alloc_last wr _
          have cW : Wb.cell? ⟨wr.heap.size, 1, none⟩ = some (.string (S x)) := by rw [cell_of_row Wb _ 1 _ _ _ gW]; rfl
          have hWF : Hid (Calls Tryz.prog 33 #[.pointer (some ⟨bb, 0, none⟩), .string (S x), .int .i64 (k : Int)] Wb fun e w' => e = .returned (.tuple #[]) ∧ IsB bb bb (flds k (L.take (i + 1))) w' ∧ Below bb Wb w') := by
            have := writeFolded_any bb bb (flds k (L.take i)) x k Wb hIb (Nat.le_trans hwz hbW.size) h4 h5 hfl hxl
            rw [← hft] at this
            exact this
          have hbW' : Hid (Below bb W3 Wb) := hB.out.trans hbW
          have hWb' : Hid (wr.alloc (.cells #[.int .i64 z, .string (S x)] 40) = Wb) := hWb
          have i2 : (i : Int) < (n : Int) := by omega
          have hlt' : Hid (i < n) := hlt
          clear h1 h2 h3 h4 h5 k1 k2 k3 k4 k5 hBw hwz hiL hft hxl hfl hIb hbW hIi hB hHB gW hlt hle hk hd hz hx
          go_wp2_with (go_at_call 33; refine hWF.out.mono ?_; rintro e w4 ⟨rfl, hI4, hb4⟩)
          go_roundw
          case rel => exact ⟨i + 1, hlt'.out, by simp, hI4, hbW'.out.trans hb4⟩
          case measure => have := hlt'.out; simp [intOf]; omega
        · have hie : n = i := by omega
          subst hie
          have hIf := hIi.out
          rw [List.take_of_length_le (by omega)] at hIf
          have hst : Hid (Calls Tryz.prog 30 #[.pointer (some ⟨bb, 0, none⟩)] wr fun e w' => e = .returned (.string (S (flds k L))) ∧ Below bb wr w') := bString_any _ _ _ wr hIf hwz
          have hfin : Hid (∀ w', Below bb wr w' → Below w.heap.size w w') := fun w' h => hHB.out.trans (h.mono (by have := k2.size; omega))
          clear h1 h2 h3 h4 h5 k1 k2 k3 k4 k5 hBw hwz hIf hIi hB hHB hlt hle hk hd
          go_wp2_with (go_at_call 30; refine hst.out.mono ?_; rintro e w4 ⟨rfl, hb4⟩)
          go_ret3
          exact ⟨rfl, hfin.out _ hb4⟩
end Go.Proofs.YtfpphhbpoaobfaaGreatDoor

namespace Go.Proofs.YtfpphhbpoaobfaaGreatDoor
namespace Rd
open LdMath
set_option linter.unusedVariables false
set_option maxRecDepth 100000

theorem phR_tot : ∀ (l : List UInt8) (n : Nat) (acc : List UInt8), ltot (phR n acc l) + (phR n acc l).length ≤ acc.length + l.length + 1
  | [], n, acc => by
    rw [phR]
    split
    · simp [ltot]
    · simp [ltot]
  | c :: l, n, acc => by
    rw [phR]
    split
    · have h1 := phR_tot l (n + 1) []
      have h2 := trimCR_len acc
      have e : ltot ((n, trimCR acc) :: phR (n + 1) [] l) = (trimCR acc).length + ltot (phR (n + 1) [] l) := by simp [ltot]
      rw [e]
      simp only [List.length_cons, List.length_nil] at h1 ⊢
      omega
    · have h1 := phR_tot l n (acc ++ [c])
      simp only [List.length_cons, List.length_append, List.length_nil] at h1 ⊢
      omega
theorem phys_both (b : List UInt8) : ltot (phys b) + (phys b).length ≤ b.length + 1 := by
  rw [phys_eq]
  have := phR_tot b 1 []
  simpa using this
/-- What a text and the same refolded have in common. -/
def RfS (b : List UInt8) (w : Nat) (t : List UInt8) : Prop := ferr [] (phys t) = none ∧ (outL (phys t)).map (·.2) = (outL (phys b)).map (·.2) ∧ flds w (outL (phys t)) = t ∧ chk w 0 t ∧ (t ≠ [] → t.getLast? = some 10) ∧ (rdT b).2.1 = (rdT t).2.1 ∧ (ldR b).map (·.2) = (ldR t).map (·.2) ∧ t.length ≤ 3 * b.length + 3
theorem refold_same (b : List UInt8) (w : Nat) (hw : 2 ≤ w) (hf : ferr [] (phys b) = none) : RfS b w (flds w (outL (phys b))) := by
  have hL : outL (phys b) = joinS (phys b) := by unfold outL; rw [hf]
  obtain ⟨hform, _⟩ := join_form (phys b) hf (phys_ten b)
  obtain ⟨h1, M, h2, h3⟩ := flds_read w hw (joinS (phys b)) 1 [] hform
  obtain ⟨t, ht⟩ : ∃ t, flds w (outL (phys b)) = t := ⟨_, rfl⟩
  have hp : phys t = phR 1 [] (flds w (joinS (phys b))) := by rw [phys_eq, ← ht, hL]
  have hft : ferr [] (phys t) = none := by rw [hp]; exact h1
  have hj : joinS (phys t) = M := by
    have := h3 []
    rw [← hp] at this
    simpa [joinS] using this
  have hLt : outL (phys t) = M := by unfold outL; rw [hft]; exact hj
  have hrd : ∀ e e', (rdL e st0 (joinS (phys b))).1.map (·.2) = (rdL e' st0 M).1.map (·.2) ∧ (rdL e st0 (joinS (phys b))).2.1 = (rdL e' st0 M).2.1 := fun e e' => rdL_num e e' _ _ st0 st0 h2 ⟨rfl, rfl⟩
  have r1 : rdT b = rdL ((phys b).length + 1) st0 (joinS (phys b)) := by unfold rdT; rw [hf]
  have r2 : rdT t = rdL ((phys t).length + 1) st0 M := by unfold rdT; rw [hft, ← hj]
  have hnum : (rdT b).2.1 = (rdT t).2.1 := by rw [r1, r2]; exact (hrd _ _).2
  have hrec : (rdT b).1.map (·.2) = (rdT t).1.map (·.2) := by rw [r1, r2]; exact (hrd _ _).1
  rw [ht]
  refine ⟨hft, by rw [hLt, hL, h2], by rw [hLt, ← ht, hL]; exact flds_texts w _ _ h2, ?_, ?_, hnum, ?_, ?_⟩
  · rw [← ht, hL]
    exact chk_flds w hw _ (fun p hp => ⟨(hform p hp).1, (hform p hp).2.1⟩)
  · intro h0
    rw [← ht]
    refine flds_last w _ ?_
    intro e
    rw [e] at ht
    exact h0 (by rw [← ht]; rfl)
  · unfold ldR
    rw [hnum]
    split
    · exact hrec
    · rfl
  · have k1 := flds_len w (joinS (phys b))
    have k2 := joinS_ltot (phys b)
    have k3 := (joinS_sizes (phys b)).1
    have k4 := phys_both b
    rw [← ht, hL]
    omega
end Rd
end Go.Proofs.YtfpphhbpoaobfaaGreatDoor
