import Derived.Test.YtkknenmpdimdbaaGreatDoorFX13
import Derived.Test.YtkknenmpdimdbaaGreatDoorFX11
import Derived.Test.YtkknenmpdimdbaaGreatDoorFX45
import Derived.Test.YtkknenmpdimdbaaGreatDoorFX32
import Derived.Test.YtkknenmpdimdbaaGreatDoorFX43
import Derived.Test.YtkknenmpdimdbaaGreatDoorFX46
import Derived.Test.YtkknenmpdimdbaaGreatDoorFX25
import Derived.Test.YtkknenmpdimdbaaGreatDoorPdJ
import Derived.Test.YtkknenmpdimdbaaGreatDoorFX4
import Derived.Test.YtkknenmpdimdbaaGreatDoorFX16
namespace Go.Proofs.YtkknenmpdimdbaaGreatDoor
namespace Ke
open Go.RowKit Go.Lib
open TextMath (fold lo normal check)
open Du (PRow DRow PX sd sd_len drow_at pV pV_len prow_at)
set_option linter.unusedVariables false
set_option linter.unusedSimpArgs false
set_option maxRecDepth 100000
end Ke
end Go.Proofs.YtkknenmpdimdbaaGreatDoor

namespace Go.Proofs.YtkknenmpdimdbaaGreatDoor
namespace Ke
open Go.RowKit Go.Lib
open TextMath (fold lo normal check)
open Du (PRow DRow PX sd sd_len drow_at pV pV_len prow_at)
set_option linter.unusedVariables false
set_option linter.unusedSimpArgs false
set_option maxRecDepth 100000
end Ke
end Go.Proofs.YtkknenmpdimdbaaGreatDoor

namespace Go.Proofs.YtkknenmpdimdbaaGreatDoor
namespace Pa
open Go.RowKit
open TextMath (fold lo normal check wo unhex)
open Ke (refV tyOk tyC utf PR OkD OkP KeyQ keys ErrsG)
open Du (PX DRow PRow GRow sd sd_len pV xV pV_len xV_len sameDN_any)
set_option linter.unusedVariables false
set_option linter.unusedSimpArgs false
set_option maxRecDepth 100000
theorem parse_all (ev : Nat → TypeId × Value) (t : List UInt8) (w : World) (R : DRs) (hs : t.length ≤ 140737488355328) (hE : EvA ev w) (hR : prs hxO t = some R) :
  Calls Tryz.prog 10 #[.string (S t)] w fun e w' => PsQ ev t.length w R e w' := by
 by_cases hl : 4096 < t.length
 ·refine parse_any (fun _ => none) ev t w R hs hE (fun b r R' p W h => by cases h) ?_
  unfold prs at hR ⊢
  rw [if_pos hl] at hR ⊢
  exact hR
 ·exact parse_any hxO ev t w R hs hE (fun b => hexValue_any ev (S t) b (by rw [S_size]; omega)) hR
end Pa
end Go.Proofs.YtkknenmpdimdbaaGreatDoor

namespace Go.Proofs.YtkknenmpdimdbaaGreatDoor
namespace Pa
open Go.RowKit
open TextMath (fold lo normal check wo unhex)
open Ke (refV tyOk tyC utf PR Sen ErrT lfault_all lfault_none)
open Du (PX DRow PRow GRow sd sd_len pV xV pV_len xV_len sameDN_any)
set_option linter.unusedVariables false
set_option linter.unusedSimpArgs false
set_option maxRecDepth 100000
def evP (ad : Nat → Addr) (k : Nat) : TypeId × Value := (256, .pointer (some (ad k)))
theorem evP_ok {ad : Nat → Addr} {W : World} (h : Sen ad W) : EvA (evP ad) W := fun x hx => (h.1 x hx).1
theorem errT_below {W W' : World} (h : ErrT W) (hb : Below W.heap.size W W') : ErrT W' := (hb.cell (World.block_lt_of_cell? _ _ h)).trans h
end Pa
end Go.Proofs.YtkknenmpdimdbaaGreatDoor

namespace Go.Proofs.YtkknenmpdimdbaaGreatDoor
namespace Ke
open TextMath (fold lo normal check)
set_option linter.unusedVariables false
theorem nm_pos : ∀ i : Fin 62, (rowL i).1.data.toList ≠ [] := by decide +kernel
theorem tyC_ne (s : List UInt8) (h : tyOk s = true) : tyC s ≠ [] := by
 unfold tyOk at h
 have h := of_decide_eq_true h
 unfold tyC tyR parsT at *
 split at h
 ·rename_i hc
  rw [if_pos hc]
  show (canN (S (fold s))).data.toList ≠ []
  unfold canN
  split
  ·intro he
   have h1 := hc.1
   rw [he] at h1
   revert h1
   decide
  ·rename_i i _
   exact nm_pos i
 ·simp at h
theorem srt_lt {ps : List PR} (h : OkP ps) : (srtP (ps.map cn)).Pairwise fun x y => x.1 < y.1 := by
 obtain ⟨h1, _, h2⟩ := srt_holds (ps.map cn)
 have hnd := (h1.map Prod.fst).nodup_iff.2 (okP_nodup h)
 unfold List.Nodup at hnd
 rw [List.pairwise_map] at hnd
 refine (h2.and hnd).imp ?_
 rintro x y ⟨q1, q2⟩
 rcases Classical.em (x.1 < y.1) with q | q
 ·exact q
 ·exact absurd (List.le_antisymm q1 q) q2
def lastT (ps : List PR) : Nat → List UInt8
 | 0 => []
 | n + 1 => ((srtP (ps.map cn)).getD n ([], [])).1
def Sel (last : List UInt8) (l : List PR) (least value : List UInt8) : Prop :=
 (least = [] ∧ ∀ p ∈ l, ¬ last < tyC p.1) ∨ (∃ p ∈ l, tyC p.1 = least ∧ p.2 = value ∧ last < least ∧ ∀ q ∈ l, last < tyC q.1 → least ≤ tyC q.1)
theorem Sel.zero (last : List UInt8) (v : List UInt8) : Sel last [] [] v := Or.inl ⟨rfl, fun p hp => by simp at hp⟩
theorem Sel.take {last : List UInt8} {l : List PR} {least value : List UInt8} (h : Sel last l least value) (p : PR) (h1 : last < tyC p.1) (h2 : least = [] ∨ tyC p.1 < least) : Sel last (l ++ [p]) (tyC p.1) p.2 := by
 refine Or.inr ⟨p, by simp, rfl, rfl, h1, fun q hq hlt => ?_⟩
 rcases List.mem_append.1 hq with hq | hq
 ·rcases h with ⟨_, h⟩ | ⟨r, hr, e1, e2, h3, h4⟩
  ·exact absurd hlt (h q hq)
  ·rcases h2 with e | e
   ·rw [e] at h3
    exact absurd h3 (List.not_lt_nil _)
   ·exact List.le_trans (List.le_of_lt e) (h4 q hq hlt)
 ·rw [List.mem_singleton.1 hq]
  exact List.le_refl _
theorem Sel.skip {last : List UInt8} {l : List PR} {least value : List UInt8} (h : Sel last l least value) (p : PR) (hn : ¬ (last < tyC p.1 ∧ (least = [] ∨ tyC p.1 < least))) : Sel last (l ++ [p]) least value := by
 rcases h with ⟨e, h⟩ | ⟨r, hr, e1, e2, h3, h4⟩
 ·refine Or.inl ⟨e, fun q hq => ?_⟩
  rcases List.mem_append.1 hq with hq | hq
  ·exact h q hq
  ·rw [List.mem_singleton.1 hq]
   exact fun hl => hn ⟨hl, Or.inl e⟩
 ·refine Or.inr ⟨r, by simp [hr], e1, e2, h3, fun q hq hlt => ?_⟩
  rcases List.mem_append.1 hq with hq | hq
  ·exact h4 q hq hlt
  ·rw [List.mem_singleton.1 hq] at hlt ⊢
   exact fun hl => hn ⟨hlt, Or.inr hl⟩
theorem Sel.next {ps : List PR} (h : OkP ps) (n : Nat) (hn : n < ps.length) {least value : List UInt8} (hs : Sel (lastT ps n) ps least value) : (srtP (ps.map cn))[n]? = some (least, normal value) ∧ least ≠ [] ∧ lastT ps (n + 1) = least := by
 have hl : (srtP (ps.map cn)).length = ps.length := by rw [(srt_holds (ps.map cn)).2.1, List.length_map]
 have hP := (srt_holds (ps.map cn)).1
 have hlt := srt_lt h
 rw [List.pairwise_iff_getElem] at hlt
 have hn' : n < (srtP (ps.map cn)).length := by omega
 obtain ⟨x, hx⟩ : ∃ x, (srtP (ps.map cn))[n] = x := ⟨_, rfl⟩
 have hxm : x ∈ ps.map cn := hP.subset (by rw [← hx]; exact List.getElem_mem _)
 obtain ⟨p0, hp0, e0⟩ := List.mem_map.1 hxm
 have hne : ∀ p ∈ ps, tyC p.1 ≠ [] := fun p hp => by
  obtain ⟨i, hi, rfl⟩ := List.getElem_of_mem hp
  obtain ⟨_, q, _⟩ := h.2.2 i hi
  exact tyC_ne _ q
 have habove : lastT ps n < x.1 := by
  cases n with
  | zero =>
   show ([] : List UInt8) < x.1
   rw [← e0]
   have := hne p0 hp0
   show ([] : List UInt8) < tyC p0.1
   cases ht : tyC p0.1 with
   | nil => exact absurd ht this
   | cons a t => exact List.nil_lt_cons a t
  | succ n =>
   show ((srtP (ps.map cn)).getD n ([], [])).1 < x.1
   rw [List.getD_eq_getElem?_getD, List.getElem?_eq_getElem (by omega), ← hx]
   exact hlt n (n + 1) (by omega) hn' (by omega)
 have hbelow : ∀ y ∈ ps.map cn, lastT ps n < y.1 → x.1 ≤ y.1 := fun y hy hl' => by
  obtain ⟨j, hj, rfl⟩ := List.getElem_of_mem (hP.symm.subset hy)
  rcases Nat.lt_trichotomy j n with q | q | q
  ·exfalso
   cases n with
   | zero => omega
   | succ n =>
    have hl2 : ((srtP (ps.map cn)).getD n ([], [])).1 < ((srtP (ps.map cn))[j]).1 := hl'
    rw [List.getD_eq_getElem?_getD, List.getElem?_eq_getElem (by omega)] at hl2
    by_cases e : j = n
    ·subst e
     exact List.lt_irrefl _ hl2
    ·exact List.lt_asymm hl2 (hlt j n hj (by omega) (by omega))
  ·subst q
   rw [hx]
   exact List.le_refl _
  ·rw [← hx]
   exact List.le_of_lt (hlt n j hn' hj q)
 have hx1 : x.1 = tyC p0.1 := by rw [← e0]; rfl
 rcases hs with ⟨_, hs⟩ | ⟨p, hp, e1, e2, h3, h4⟩
 ·exact absurd (by rw [← hx1]; exact habove) (hs p0 hp0)
 ·have hle1 : least ≤ x.1 := by rw [hx1]; exact h4 p0 hp0 (by rw [← hx1]; exact habove)
  have hle2 : x.1 ≤ least := by
   rw [← e1]
   exact hbelow (cn p) (List.mem_map_of_mem hp) (by show lastT ps n < tyC p.1; rw [e1]; exact h3)
  have hex : x.1 = least := List.le_antisymm hle2 hle1
  have hcp : cn p = x := by
   have hnd := okP_nodup h
   unfold List.Nodup at hnd
   rw [List.pairwise_map, List.pairwise_iff_getElem] at hnd
   obtain ⟨i, hi, ei⟩ := List.getElem_of_mem (List.mem_map_of_mem (f := cn) hp)
   obtain ⟨j, hj, ej⟩ := List.getElem_of_mem hxm
   have hij : i = j := by
    rcases Nat.lt_trichotomy i j with q | q | q
    ·exact absurd (by rw [ei, ej, hex, ← e1]; rfl) (hnd i j hi hj q)
    ·exact q
    ·exact absurd (by rw [ei, ej, hex, ← e1]; rfl) (hnd j i hj hi q)
   subst hij
   rw [← ei, ej]
  refine ⟨?_, by rw [← e1]; exact hne p hp, ?_⟩
  ·rw [List.getElem?_eq_getElem hn', hx, ← hcp]
   unfold cn
   rw [e1, e2]
  ·show ((srtP (ps.map cn)).getD n ([], [])).1 = least
   rw [List.getD_eq_getElem?_getD, List.getElem?_eq_getElem hn', hx]
   exact hex
end Ke
end Go.Proofs.YtkknenmpdimdbaaGreatDoor

namespace Go.Proofs.YtkknenmpdimdbaaGreatDoor
open Go.RowKit
open TextMath (fold lo col bl trimP trimS squeeze normal)
set_option maxRecDepth 100000
theorem bl_eq2 (c : UInt8) : bl c = (((c.toNat : Int) == 32) || decide ((9 : Int) ≤ c.toNat) && decide ((c.toNat : Int) ≤ 13)) := by
 rw [bl_eq, Bool.or_comm]
set_option maxHeartbeats 400000 in
theorem rBlank_any (c : UInt8) (w : World) :
  Calls Tryz.prog 140 #[.int .u8 (c.toNat : Int)] w fun e w' => e = .returned (.bool (bl c)) ∧ w = w' := by
 have hc256 : c.toNat < 256 := c.toNat_lt
 rw [bl_eq2]
 generalize c.toNat = n at *
 by_cases h0 : ((n : Int) == 32) = true
 ·go_enter Tryz.func140, Tryz.ntmps140
  go_wp2
  go_ret
  exact ⟨ret_bool (by simp [h0]), rfl⟩
 ·have h0' : ((n : Int) == 32) = false := by simpa using h0
  clear h0
  by_cases h1 : (9 : Int) ≤ n
  ·by_cases h2 : (n : Int) ≤ 13
   ·go_enter Tryz.func140, Tryz.ntmps140
    go_wp2
    go_ret
    exact ⟨ret_bool (by simp [h1, h2]), rfl⟩
   ·have d2 : decide ((n : Int) ≤ 13) = false := by simpa using h2
    go_enter Tryz.func140, Tryz.ntmps140
    go_wp2
    go_ret
    exact ⟨ret_bool (by simp), rfl⟩
  ·have d1 : decide ((9 : Int) ≤ n) = false := by simpa using h1
   go_enter Tryz.func140, Tryz.ntmps140
   go_wp2
   go_ret
   exact ⟨ret_bool (by simp), rfl⟩
def ran (l : List UInt8) (k : Nat) : Bool := decide (0 < k) && bl (l.getD (k - 1) 0)
theorem ran_zero (l : List UInt8) : ran l 0 = false := rfl
theorem ran_succ (l : List UInt8) (k : Nat) (h : k < l.length) : ran l (k + 1) = bl l[k] := by
 unfold ran; simp [List.getD, List.getElem?_eq_getElem h]
theorem ran_pos (s : ByteArray) (k : Nat) (h : k - 1 < s.size) (hp : 0 < k) : ran s.data.toList k = bl s[k - 1] := by
 unfold ran; rw [getD_s s (k - 1) h]; simp [hp]
set_option maxHeartbeats 1000000 in
theorem rCollapse_any (s : ByteArray) (w : World) (hm : s.size ≤ 140737488355328) :
  Calls Tryz.prog 107 #[.string s] w fun e w' => e = .returned (.string (S (col false s.data.toList))) ∧ Below w.heap.size w w' := by
 have hL : Hid (s.data.toList.length = s.size) := size_l s
 obtain ⟨i0, hi, hz0, hz1, hz2⟩ := info_parts info_u8
 go_enter Tryz.func107, Tryz.ntmps107
 go_wp2
 go_loopw [3, 4] (fun out i wr => ∃ (k : Nat) (o : List UInt8), k ≤ s.size ∧ i = .int .i64 k ∧ o.length ≤ k ∧ Below w.heap.size w wr ∧ wr.ownsRow w.heap.size 5 1 out o.length (bv o) ∧ Hid (col false s.data.toList = o ++ col (ran s.data.toList k) (s.data.toList.drop k))) (fun _ i _ => s.size - (intOf i).toNat)
 case atStart => exact ⟨0, [], Nat.zero_le _, rfl, Nat.zero_le _, Below.refl _ _, World.ownsRow_nil _ _ _ _, by unfold Hid; simp [ran_zero]⟩
 case round =>
  obtain ⟨k, o, hk, rfl, ho, hb, hown, hcol⟩ := hrel
  have hgs' := hb.size
  by_cases hlt : k < s.size
  ·have hkl : k < s.data.toList.length := by rw [hL.out]; exact hlt
   have hget : s.data.toList[k] = s[k] := rfl
   have e32 : Hid (bv (o ++ [32]) = bv o ++ [.int .u8 32]) := by unfold Hid; rw [bv_app]; rfl
   have ec : Hid (bv (o ++ [s[k]]) = bv o ++ [.int .u8 (s[k].toNat : Int)]) := by unfold Hid; rw [bv_app]; rfl
   have hlen : ∀ c : UInt8, (o ++ [c]).length = o.length + 1 := by intro c; simp
   have hrs := ran_succ _ k hkl
   rw [hget] at hrs
   by_cases hbl : bl s[k] = true
   ·rw [hbl] at hrs
    cases hr : ran s.data.toList k
    ·rw [hr] at hcol
     have HC := col_space _ o k hkl hcol.out hbl
     rw [← hrs] at HC
     have HC' : Hid (_ = _) := HC
     clear HC hcol hrs
     by_cases hk0 : k = 0
     ·subst hk0
      clear hr
      go_wp2_with (first | (go_at_call 140; refine (rBlank_any _ _).mono ?_; rintro e w' ⟨rfl, rfl⟩; rw [hbl]) | (at_builtin; refine wpList_append_own _ rfl _ _ 87 rfl w.heap.size 5 i0 (.int .u8 0) 1 1 Tryz.underlying87 hi hz0 hz1 hz2 rfl (by decide) _ _ _ rfl (hown.alloc _) ⟨wr.heap.size, 0, none⟩ 1 1 [.int .u8 32] rfl rfl ?_ ?_ ?_ ?_ ?_ ?_; exact cell_one_new _ _ _; (intro u hu; simp at hu; subst hu; rfl); (unfold maxLen; omega); omega; (simp; omega); intro v1 w1 hown1 hgrow1 _))
      go_roundw
      case rel =>
       refine ⟨0 + 1, o ++ [32], by omega, by go_num, by rw [hlen]; omega, ?_, ?_, HC'.out⟩
       ·exact (hb.alloc hgs' _).grown hgrow1 (by simp; omega) (fun j h => (hown.lt j h).1)
       ·rw [hlen, e32.out]; exact hown1
      case measure => simp [intOf]; omega
     ·have hz : (((k : Nat) : Int) == 0) = false := by simp; omega
      have hp : (0 : Int) < k := by omega
      have hprev : bl s[k - 1] = false := by rw [← ran_pos s k (by omega) (by omega)]; exact hr
      have hidx : ((k : Int) - 1).toNat = k - 1 := by omega
      clear hr
      go_wp2_with (first | (go_at_call 140; refine (rBlank_any _ _).mono ?_; rintro e w' ⟨rfl, rfl⟩; first | rw [hbl] | rw [hprev]) | (at_builtin; refine wpList_append_own _ rfl _ _ 87 rfl w.heap.size 5 i0 (.int .u8 0) 1 1 Tryz.underlying87 hi hz0 hz1 hz2 rfl (by decide) _ _ _ rfl (hown.alloc _) ⟨wr.heap.size, 0, none⟩ 1 1 [.int .u8 32] rfl rfl ?_ ?_ ?_ ?_ ?_ ?_; exact cell_one_new _ _ _; (intro u hu; simp at hu; subst hu; rfl); (unfold maxLen; omega); omega; (simp; omega); intro v1 w1 hown1 hgrow1 _))
      go_roundw
      case rel =>
       refine ⟨k + 1, o ++ [32], by omega, by go_num, by rw [hlen]; omega, ?_, ?_, HC'.out⟩
       ·exact (hb.alloc hgs' _).grown hgrow1 (by simp; omega) (fun j h => (hown.lt j h).1)
       ·rw [hlen, e32.out]; exact hown1
      case measure => simp [intOf]; omega
    ·rw [hr] at hcol
     have HC := col_skip _ o k hkl hcol.out hbl
     rw [← hrs] at HC
     have HC' : Hid (_ = _) := HC
     clear HC hcol hrs
     have hk0 : 0 < k := by
      by_cases h : k = 0
      ·subst h; rw [ran_zero] at hr; cases hr
      ·omega
     have hz : (((k : Nat) : Int) == 0) = false := by simp; omega
     have hp : (0 : Int) < k := by omega
     have hprev : bl s[k - 1] = true := by rw [← ran_pos s k (by omega) (by omega)]; exact hr
     have hidx : ((k : Int) - 1).toNat = k - 1 := by omega
     clear hr
     go_wp2_with (go_at_call 140; refine (rBlank_any _ _).mono ?_; rintro e w' ⟨rfl, rfl⟩; first | rw [hbl] | rw [hprev])
     go_roundw
     case rel => exact ⟨k + 1, o, by omega, by go_num, by omega, hb, hown, HC'.out⟩
     case measure => simp [intOf]; omega
   ·have hbl' : bl s[k] = false := by simpa using hbl
    rw [hbl'] at hrs
    have HC : col false s.data.toList = (o ++ [s[k]]) ++ col (ran s.data.toList (k + 1)) (s.data.toList.drop (k + 1)) := by rw [hrs]; exact col_keep _ o k hkl _ hcol.out hbl'
    have HC' : Hid (_ = _) := HC
    clear HC hcol hbl hrs
    go_wp2_with (first | (go_at_call 140; refine (rBlank_any _ _).mono ?_; rintro e w' ⟨rfl, rfl⟩; rw [hbl']) | (at_builtin; refine wpList_append_own _ rfl _ _ 87 rfl w.heap.size 5 i0 (.int .u8 0) 1 1 Tryz.underlying87 hi hz0 hz1 hz2 rfl (by decide) _ _ _ rfl (hown.alloc _) ⟨wr.heap.size, 0, none⟩ 1 1 [.int .u8 (s[k].toNat : Int)] rfl rfl ?_ ?_ ?_ ?_ ?_ ?_; exact cell_one_new _ _ _; (intro u hu; simp at hu; subst hu; rfl); (unfold maxLen; omega); omega; (simp; omega); intro v1 w1 hown1 hgrow1 _))
    go_roundw
    case rel =>
     refine ⟨k + 1, o ++ [s[k]], by omega, by go_num, by rw [hlen]; omega, ?_, ?_, HC'.out⟩
     ·exact (hb.alloc hgs' _).grown hgrow1 (by simp; omega) (fun j h => (hown.lt j h).1)
     ·rw [hlen, ec.out]; exact hown1
    case measure => simp [intOf]; omega
  ·have hc := hcol.out
   rw [List.drop_eq_nil_of_le (by rw [hL.out]; omega)] at hc
   have hc2 : col false s.data.toList = o := by rw [hc]; simp [col]
   have hback := own_back_any (P := Tryz.prog) wr w.heap.size 87 9 5 _ _ _ Tryz.underlying87 Tryz.underlying5 Tryz.underlying9 hown
   have HC2 : Hid (_ = _) := hc2
   clear hc hc2 hcol hown
   go_wp2
   go_ret
   exact ⟨ret_str (by rw [HC2.out]), hb⟩
end Go.Proofs.YtkknenmpdimdbaaGreatDoor

namespace Go.Proofs.YtkknenmpdimdbaaGreatDoor
open Go.RowKit
open TextMath (fold lo col bl trimP trimS squeeze normal)
theorem trimP_if (l : List UInt8) : trimP l = l.drop (if l.getD 0 0 = 32 then 1 else 0) := by
 cases l with
 | nil => simp [trimP]
 | cons a t =>
  unfold trimP
  by_cases h : a = 32 <;> simp [h]
theorem trimS_drop (c : List UInt8) (p : Nat) : trimS (c.drop p) = (c.drop p).take ((if p < c.length ∧ c.getD (c.length - 1) 0 = 32 then c.length - 1 else c.length) - p) := by
 unfold trimS
 by_cases hp : p < c.length
 ·have hl : (c.drop p).getLast? = some (c.getD (c.length - 1) 0) := by
   rw [List.getLast?_eq_getElem?, List.getElem?_drop, List.length_drop]
   have e : p + (c.length - p - 1) = c.length - 1 := by omega
   rw [e, List.getElem?_eq_getElem (by omega)]
   simp [List.getD, List.getElem?_eq_getElem (show c.length - 1 < c.length by omega)]
  rw [hl]
  by_cases h : c.getD (c.length - 1) 0 = 32
  ·rw [if_pos (by rw [h]), if_pos ⟨hp, h⟩, List.dropLast_eq_take, List.length_drop]
   congr 1; omega
  ·rw [if_neg (by intro hh; injection hh with hh; exact h hh), if_neg (fun hh => h hh.2), List.take_of_length_le (by simp)]
 ·rw [List.drop_eq_nil_of_le (by omega)]
  simp
theorem sq_ext (T : ByteArray) (p q : Nat) (hp : p = if T.data.toList.getD 0 0 = 32 then 1 else 0) (hq : q = if p < T.data.toList.length ∧ T.data.toList.getD (T.data.toList.length - 1) 0 = 32 then T.data.toList.length - 1 else T.data.toList.length) :
  T.extract p q = S (trimS (trimP T.data.toList)) := by
 apply S_eq
 rw [Lib.extract_data, trimP_if, trimS_drop, ← hp, ← hq]
theorem ext_all (T : ByteArray) : T.extract 0 T.size = T := by
 rw [← S_of (T.extract 0 T.size), take_l, List.take_of_length_le (by rw [size_l]; exact Nat.le_refl _), S_of]
theorem u32 (c : UInt8) : ((c.toNat : Int) == 32) = true ↔ c = 32 := by
 rw [beq_iff_eq]
 constructor
 ·intro h; apply UInt8.toNat_inj.1; have : (32 : UInt8).toNat = 32 := rfl; omega
 ·rintro rfl; rfl
set_option maxHeartbeats 1000000 in
theorem rSqueeze_any (s : ByteArray) (w : World) (hm : s.size ≤ 140737488355328) :
  Calls Tryz.prog 78 #[.string s] w fun e w' => e = .returned (.string (S (squeeze s.data.toList))) ∧ Below w.heap.size w w' := by
 have hcl := TextMath.col_length s.data.toList false
 rw [size_l] at hcl
 have hsq : Hid (squeeze s.data.toList = trimS (trimP (S (col false s.data.toList)).data.toList)) := by unfold Hid; rw [S_l]; rfl
 have hts : (S (col false s.data.toList)).size ≤ s.size := by rw [S_size]; exact hcl
 have hcall := rCollapse_any s w hm
 have HC := hcall
 clear hcl
 generalize hT : S (col false s.data.toList) = T at *
 have HLN : Hid (T.data.toList.length = T.size) := size_l T
 have hcall2 : Hid (Calls Tryz.prog 107 #[.string s] w fun e w' => e = .returned (.string T) ∧ Below w.heap.size w w') := hcall
 clear hcall HC hT
 by_cases h0 : 0 < T.size
 ·have g0 := getD_s T 0 h0
  have g1 := getD_s T (T.size - 1) (by omega)
  by_cases hf : ((T[0].toNat : Int) == 32) = true
  ·have hf' := (u32 _).1 hf
   have p1 : (1 : Nat) = if T.data.toList.getD 0 0 = 32 then 1 else 0 := by rw [g0, if_pos hf']
   have P1 : Hid ((1 : Nat) = if T.data.toList.getD 0 0 = 32 then 1 else 0) := p1
   by_cases h1 : T.size = 1
   ·have Q : Hid ((1 : Nat) = if 1 < T.data.toList.length ∧ T.data.toList.getD (T.data.toList.length - 1) 0 = 32 then T.data.toList.length - 1 else T.data.toList.length) := by
     have hlen := HLN.out; unfold Hid; rw [if_neg (by omega), hlen, h1]
    have h1' : Hid (T.size = 1) := h1
    have l1 : T.size ≤ 1 := by omega
    have l2 : 1 ≤ T.size := by omega
    clear h1 g0 g1 p1 hf'
    go_enter Tryz.func78, Tryz.ntmps78
    go_wp2_with (go_at_call 107; refine hcall2.out.mono ?_; rintro e w1 ⟨rfl, hb⟩)
    go_ret
    exact ⟨ret_str (by rw [hsq.out]; have h := sq_ext T 1 1 P1.out Q.out; rw [← h, h1'.out]), by assumption⟩
   ·have l1 : 1 < T.size := by omega
    by_cases hlast : ((T[T.size - 1].toNat : Int) == 32) = true
    ·have Q : Hid (T.size - 1 = if 1 < T.data.toList.length ∧ T.data.toList.getD (T.data.toList.length - 1) 0 = 32 then T.data.toList.length - 1 else T.data.toList.length) := by
      have hlen := HLN.out; unfold Hid; rw [hlen, g1, if_pos ⟨l1, (u32 _).1 hlast⟩]
     clear h1 g0 g1 p1 hf'
     go_enter Tryz.func78, Tryz.ntmps78
     go_wp2_with (go_at_call 107; refine hcall2.out.mono ?_; rintro e w1 ⟨rfl, hb⟩)
     go_ret
     exact ⟨ret_str (by rw [hsq.out]; exact sq_ext T 1 _ P1.out Q.out), by assumption⟩
    ·have hlast' : ((T[T.size - 1].toNat : Int) == 32) = false := by simpa using hlast
     have Q : Hid (T.size = if 1 < T.data.toList.length ∧ T.data.toList.getD (T.data.toList.length - 1) 0 = 32 then T.data.toList.length - 1 else T.data.toList.length) := by
      have hlen := HLN.out; unfold Hid; rw [hlen, g1, if_neg (fun h => hlast ((u32 _).2 h.2))]
     clear h1 g0 g1 p1 hf' hlast
     go_enter Tryz.func78, Tryz.ntmps78
     go_wp2_with (go_at_call 107; refine hcall2.out.mono ?_; rintro e w1 ⟨rfl, hb⟩)
     go_ret
     exact ⟨ret_str (by rw [hsq.out]; exact sq_ext T 1 _ P1.out Q.out), by assumption⟩
  ·have hf' : ((T[0].toNat : Int) == 32) = false := by simpa using hf
   have P1 : Hid ((0 : Nat) = if T.data.toList.getD 0 0 = 32 then 1 else 0) := by unfold Hid; rw [g0, if_neg (fun h => hf ((u32 _).2 h))]
   by_cases hlast : ((T[T.size - 1].toNat : Int) == 32) = true
   ·have Q : Hid (T.size - 1 = if 0 < T.data.toList.length ∧ T.data.toList.getD (T.data.toList.length - 1) 0 = 32 then T.data.toList.length - 1 else T.data.toList.length) := by
     have hlen := HLN.out; unfold Hid; rw [hlen, g1, if_pos ⟨h0, (u32 _).1 hlast⟩]
    clear g0 g1 hf
    go_enter Tryz.func78, Tryz.ntmps78
    go_wp2_with (go_at_call 107; refine hcall2.out.mono ?_; rintro e w1 ⟨rfl, hb⟩)
    go_ret
    exact ⟨ret_str (by rw [hsq.out]; exact sq_ext T 0 _ P1.out Q.out), by assumption⟩
   ·have hlast' : ((T[T.size - 1].toNat : Int) == 32) = false := by simpa using hlast
    have Q : Hid (T.size = if 0 < T.data.toList.length ∧ T.data.toList.getD (T.data.toList.length - 1) 0 = 32 then T.data.toList.length - 1 else T.data.toList.length) := by
     have hlen := HLN.out; unfold Hid; rw [hlen, g1, if_neg (fun h => hlast ((u32 _).2 h.2))]
    clear g0 g1 hf hlast
    go_enter Tryz.func78, Tryz.ntmps78
    go_wp2_with (go_at_call 107; refine hcall2.out.mono ?_; rintro e w1 ⟨rfl, hb⟩)
    go_ret
    exact ⟨ret_str (by rw [hsq.out, ← sq_ext T 0 _ P1.out Q.out, ext_all]), by assumption⟩
 ·have hz : T.data.toList = [] := List.eq_nil_of_length_eq_zero (by rw [HLN.out]; omega)
  have hTe : Hid (T.extract 0 T.size = S (squeeze s.data.toList)) := by
   unfold Hid; rw [hsq.out, hz]
   apply S_eq; rw [Lib.extract_data, hz]; simp [trimS, trimP]
  clear hz
  go_enter Tryz.func78, Tryz.ntmps78
  go_wp2_with (go_at_call 107; refine hcall2.out.mono ?_; rintro e w1 ⟨rfl, hb⟩)
  go_ret
  exact ⟨ret_str (by rw [← hTe.out, ext_all]), by assumption⟩
set_option maxHeartbeats 400000 in
theorem rNormal_any (s : ByteArray) (w : World) (hm : s.size ≤ 140737488355328) :
  Calls Tryz.prog 48 #[.string s] w fun e w' => e = .returned (.string (S (normal s.data.toList))) ∧ Below w.heap.size w w' := by
 have h1 : (S (fold s.data.toList)).size ≤ 140737488355328 := by rw [S_size, fold_len, size_l]; exact hm
 go_enter Tryz.func48, Tryz.ntmps48
 go_wp2_with fail
 refine (rFold_any s _ hm).mono ?_
 rintro e w1 ⟨rfl, hb⟩
 go_wp2_with fail
 refine (rSqueeze_any _ _ h1).mono ?_
 rintro e w2 ⟨rfl, hb2⟩
 rw [S_l]
 go_wp2_with fail
 go_ret
 exact ⟨rfl, hb.trans (hb2.mono hb.size)⟩
end Go.Proofs.YtkknenmpdimdbaaGreatDoor
