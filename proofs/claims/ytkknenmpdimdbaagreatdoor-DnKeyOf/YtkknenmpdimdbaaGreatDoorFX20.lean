import Derived.Test.YtkknenmpdimdbaaGreatDoorFX19
import Derived.Test.YtkknenmpdimdbaaGreatDoorCards
import Derived.ProofKit
import Derived.OpenShut
import Derived.Lib.LaidTab
import Derived.Test.YtkknenmpdimdbaaGreatDoorFX4
import Derived.Stop.LaidTwo
import Derived.LaidHandle
import Derived.Stop.LaidErr
import Derived.MakeChecks
import Derived.LaidSub
import Derived.Test.YtkknenmpdimdbaaGreatDoorRows
import Derived.ShutString
import Derived.Deep.Slices
import Derived.Test.YtkknenmpdimdbaaGreatDoorFX10
import Derived.Test.YtkknenmpdimdbaaGreatDoorBytes
import Derived.Test.YtkknenmpdimdbaaGreatDoorFX12
import Derived.Deep.RegionHeld3
import Derived.BigQuiet
namespace Go.Proofs.YtkknenmpdimdbaaGreatDoor
namespace Ke
open Go.RowKit
open TextMath (fold lo normal check)
open Du (PRow DRow PX sd sd_len drow_at pV pV_len prow_at)
set_option linter.unusedVariables false
set_option linter.unusedSimpArgs false
set_option maxRecDepth 100000
theorem sdAt (L : List PX) (k : Nat) (h : k < L.length) : (sd L)[k]'(by rw [sd_len]; exact h) = L[k].2.2 := by simp [sd]
def Fs (D : List (List PR)) (k : Nat) : Prop := ∃ h : k < D.length, (∀ j (h' : j < k), cer (D[j]'(by omega)) (j : Int) = 0) ∧ cer D[k] (k : Int) ≠ 0
def Az (D : List (List PR)) : Prop := ∀ j (h : j < D.length), cer D[j] (j : Int) = 0
theorem fs_one {D : List (List PR)} {k m : Nat} (h : Fs D k) (h' : Fs D m) : k = m := by
 obtain ⟨hk, h1, h2⟩ := h
 obtain ⟨hm, h3, h4⟩ := h'
 rcases Nat.lt_trichotomy k m with q | q | q
 ·exact absurd (h3 k q) h2
 ·exact q
 ·exact absurd (h1 m q) h4
theorem fs_az {D : List (List PR)} {k : Nat} (h : Fs D k) (h' : Az D) : False := by
 obtain ⟨hk, _, h2⟩ := h
 exact h2 (h' k hk)
def NmF (w : World) (D : List (List PR)) (e : Ending) (w' : World) : Prop :=
 Below w.heap.size w w' ∧ ((Az D ∧ e = .returned (.tuple #[.int .i64 0, .int .i64 0])) ∨ (∃ k, ∃ h : k < D.length, Fs D k ∧ e = .returned (.tuple #[.int .i64 (cer D[k] (k : Int) : Int), .int .i64 (k : Int)])))
set_option maxHeartbeats 4000000 in
theorem name_any (sa : Option Addr) (sc n : Nat) (L : List PX) (w : World) (hG : RowTab w) (hn : L.length = n) (hr : DRow w sa L) (hz : ∀ r ∈ L, ∀ p ∈ r.2.2, p.1.length + p.2.length ≤ 4194300) (hzl : ∀ r ∈ L, r.2.2.length ≤ 1073741824) (hnb : n ≤ 1073741824) :
  Calls Tryz.prog 44 #[.slice sa n sc] w fun e w' => NmF w (sd L) e w' := by
 have nb : (n : Int) ≤ 1073741824 := by omega
 have hn' : Hid (L.length = n) := hn
 have hr' : Hid (DRow w sa L) := hr
 have hG' : Hid (RowTab w) := hG
 have hz' : Hid ((∀ r ∈ L, ∀ p ∈ r.2.2, p.1.length + p.2.length ≤ 4194300) ∧ ∀ r ∈ L, r.2.2.length ≤ 1073741824) := ⟨hz, hzl⟩
 clear hG hn hr hz hzl hnb
 go_enter Tryz.func44, Tryz.ntmps44
 go_wp2_with fail
 go_loopw [4] (fun iv wr => ∃ k : Nat, k ≤ n ∧ iv = .int .i64 (k : Int) ∧ Hid ((∀ j (h : j < L.length), j < k → cer L[j].2.2 (j : Int) = 0) ∧ Below w.heap.size w wr)) (fun iv _ => n - (intOf iv).toNat)
 case atStart => exact ⟨0, Nat.zero_le _, rfl, fun j _ hj => by omega, Below.refl _ _⟩
 case round =>
  obtain ⟨k, hk, rfl, hR⟩ := hrel
  have k0 : (0 : Int) ≤ (k : Int) := Int.natCast_nonneg _
  by_cases hlt : k < n
  ·have k1 : (k : Int) < (n : Int) := Int.ofNat_lt.2 hlt
   have hkL : k < L.length := by rw [hn'.out]; exact hlt
   have hbad : Hid (cer L[k].2.2 (k : Int) ≠ 0 → ∃ h : k < (sd L).length, Fs (sd L) k ∧ cer (sd L)[k] (k : Int) = cer L[k].2.2 (k : Int)) := fun h => by
    have hk' : k < (sd L).length := by rw [sd_len]; exact hkL
    have e : (sd L)[k] = L[k].2.2 := sdAt L k hkL
    refine ⟨hk', ⟨hk', fun j hj => ?_, by rw [e]; exact h⟩, by rw [e]⟩
    rw [sdAt L j (by omega)]
    exact hR.out.1 j (by omega) hj
   have hsn : Hid (cer L[k].2.2 (k : Int) = 0 → ∀ j (h : j < L.length), j < k + 1 → cer L[j].2.2 (j : Int) = 0) := fun h j hj hjk => by
    by_cases e : j = k
    ·subst e; exact h
    ·exact hR.out.1 j hj (by omega)
   have hBw : Hid (Below w.heap.size w wr) := hR.out.2
   by_cases h64 : k = 64
   ·subst h64
    have hc : cer L[64].2.2 ((64 : Nat) : Int) = 58 := by unfold cer; rw [if_pos (by decide)]
    have hfin : Hid (NmF w (sd L) (.returned (.tuple #[.int .i64 58, .int .i64 64])) wr) := by
     obtain ⟨q1, q2, q3⟩ := hbad.out (by rw [hc]; decide)
     exact ⟨hBw.out, Or.inr ⟨64, q1, q2, by rw [q3, hc]; rfl⟩⟩
    clear hc hbad hsn hR hk hlt hkL
    go_wp2_with fail
    go_ret2
    exact hfin.out
   ·have k64 : ((k : Int) == 64) = false := by rw [beq_eq_false_iff_ne]; omega
    have hRw := hr'.out.below hR.out.2
    obtain ⟨b, off, rfl, c1⟩ := drow_at hRw k hkL
    have hT : Hid (Calls Tryz.prog 46 #[.slice L[k].1 L[k].2.2.length L[k].2.1] wr fun e w' => e = .returned (.int .i64 (rerr L[k].2.2 : Int)) ∧ Below wr.heap.size wr w') := wrong_any _ _ _ _ wr (rowTab_below hG'.out hBw.out) rfl (hRw.2 _ (List.getElem_mem hkL)).1 (hz'.out.1 _ (List.getElem_mem hkL)) (by have := hz'.out.2 _ (List.getElem_mem hkL); omega)
    have hce : Hid (k < 64 → cer L[k].2.2 (k : Int) = rerr L[k].2.2) := fun h => by unfold cer; rw [if_neg (by omega)]
    have hce' : Hid (64 ≤ k → False) := fun h => by
     have h2 := hR.out.1 64 (by omega) (by omega)
     unfold cer at h2
     rw [if_pos (by decide)] at h2
     exact absurd h2 (by decide)
    have hlt' : Hid (k < n) := hlt
    have hce2 : Hid (cer L[k].2.2 (k : Int) = rerr L[k].2.2) := by
     rcases Nat.lt_or_ge k 64 with h | h
     ·exact hce.out h
     ·exact (hce'.out h).elim
    rw [hce2.out] at hbad hsn
    generalize L[k] = r at *
    obtain ⟨pa, pc, ps⟩ := r
    dsimp only at c1 hT hbad hsn
    generalize ps.length = m at *
    have hgo : Hid (∀ W1, Below wr.heap.size wr W1 → Below w.heap.size w W1) := fun W1 hb => hR.out.2.trans (hb.mono hR.out.2.size)
    clear hk hlt hkL hRw hce hce' hce2 hR
    go_wp2_with fail
    refine hT.out.mono ?_
    rintro e W1 ⟨rfl, hb1⟩
    have hb1' : Hid (Below w.heap.size w W1) := hgo.out W1 hb1
    by_cases hq : rerr ps = 0
    ·have hfin : Hid ((∀ j (h : j < L.length), j < k + 1 → cer L[j].2.2 (j : Int) = 0) ∧ Below w.heap.size w W1) := ⟨hsn.out hq, hb1'.out⟩
     rw [hq]
     clear hb1 hT hbad hsn hgo hBw hq
     go_wp2_with fail
     go_roundw
     case rel => exact ⟨k + 1, hlt'.out, by go_num, hfin⟩
     case measure => have := hlt'.out; simp [intOf]; omega
    ·have hfin : Hid (NmF w (sd L) (.returned (.tuple #[.int .i64 (rerr ps : Int), .int .i64 (k : Int)])) W1) := by
      obtain ⟨q1, q2, q3⟩ := hbad.out hq
      exact ⟨hb1'.out, Or.inr ⟨k, q1, q2, by rw [q3]⟩⟩
     have hq' : (((rerr ps : Nat) : Int) == 0) = false := by rw [beq_eq_false_iff_ne]; omega
     generalize rerr ps = rr at *
     clear hb1 hT hbad hsn hgo hBw hq
     go_wp2_with fail
     go_ret2
     exact hfin.out
  ·have e : n = k := by omega
   subst e
   have i1 : ¬ (n : Int) < (n : Int) := by omega
   have hfin : Hid (NmF w (sd L) (.returned (.tuple #[.int .i64 0, .int .i64 0])) wr) := by
    refine ⟨hR.out.2, Or.inl ⟨fun j hj => ?_, rfl⟩⟩
    have hj' : j < L.length := by rw [sd_len] at hj; exact hj
    rw [sdAt L j hj']
    exact hR.out.1 j hj' (by rw [← hn'.out]; exact hj')
   clear hR hk hlt
   go_wp2_with fail
   go_ret2
   exact hfin.out
end Ke
end Go.Proofs.YtkknenmpdimdbaaGreatDoor

namespace Go.Proofs.YtkknenmpdimdbaaGreatDoor
open Go.RowKit
theorem gRows : Tryz.prog.globalNamed "roster/rosterref01.rows" = some 10 := by kernel_rfl
theorem gRowsType : (Tryz.prog.globals[10]?).map (·.type) = some 146 := by kernel_rfl
theorem cRowType : Tryz.prog.cellsOf 145 = 9 := by kernel_rfl
theorem cInt : Tryz.prog.cellsOf 3 = 1 := by kernel_rfl
theorem R_at (i c : Nat) (hi : i < 9) : ∃ z, ROWS[i]? = some z ∧ R i c = z.getD c 0 := by
 have h : i < ROWS.length := hi
 refine ⟨ROWS[i], by simp [h], ?_⟩
 unfold R
 simp [List.getD, h]
theorem rows_len : ∀ z ∈ ROWS, z.length = 9 := by decide
theorem tab_rows {W : World} {rest : List (String × DataW Unit)} (h : laidMet Tryz.prog (("roster/rosterref01.rows", Rows.laid_roster_rosterref01_rows) :: rest) W) : RowTab W := by
 obtain ⟨ps, ⟨g', t', cs, fuel, p, q, hg', ht', hvar, hd, _, _⟩, _⟩ := h
 obtain rfl := Option.some.inj (gRows.symm.trans hg')
 obtain rfl := Option.some.inj (gRowsType.symm.trans ht')
 have hd' : DataW.trod _ Tryz.prog W _ _ _ fuel 146 cs.toList = some (.agg (ROWS.map (Lib.tabData .i64)), p) := hd
 obtain ⟨xs, m, rfl, hx, hlen, hxl, hall⟩ := DataW.trod_array Tryz.underlying146 hd'
 intro r c hr hc
 have hr1 := hall r hr
 rw [cRowType] at hr1
 have hxs : xs.map (·.1) = ROWS.map (Lib.tabData .i64) := by
  have := congrArg Prod.fst hx
  simpa using this.symm
 obtain ⟨z, hz, hRz⟩ := R_at r c hr
 have hxr : (xs.map (·.1))[r]? = some (Lib.tabData .i64 z) := by rw [hxs]; simp [hz]
 simp only [List.getElem?_map, Option.map_eq_some_iff] at hxr
 obtain ⟨y, hy, hyz⟩ := hxr
 rw [hy] at hr1
 obtain ⟨y1, y2⟩ := y
 simp only [] at hyz
 subst hyz
 have hcs := Lib.cells_of_tab Tryz.underlying145 Tryz.underlying3 cInt cRowType hr1
 have hzl : z.length = 9 := rows_len z (List.mem_of_getElem? hz)
 have hcell : cs[r * 9 + c]? = some (.int .i64 (z.getD c 0)) := by
  have := congrArg (·[c]?) hcs
  simp only [List.getElem?_take, List.getElem?_drop, List.getElem?_map] at this
  rw [if_pos hc] at this
  have hzc : z[c]? = some (z.getD c 0) := by simp [List.getD, hzl, hc]
  rw [hzc] at this
  simpa using this
 have := World.var?_cell gRows hvar (r * 9 + c)
 rw [this, hcell, hRz]
end Go.Proofs.YtkknenmpdimdbaaGreatDoor

namespace Go.Proofs.YtkknenmpdimdbaaGreatDoor
namespace Ke
open Go.RowKit Go.WideShapes Go.ChangeShapes
open Du (PRow DRow PX GRow sd pV xV pV_len xV_len add_o)
set_option linter.unusedVariables false
set_option linter.unusedSimpArgs false
set_option maxRecDepth 100000
theorem etG : Tryz.prog.globalNamed "errors.errorType" = some 11 := by kernel_rfl
theorem rtT : (Tryz.prog.cutTypes.find? (·.1 == "internal/reflectlite.rtype")).map (·.2) = some 155 := by kernel_rfl
theorem oneRow : ((List.range Tryz.prog.types.size).filter fun t => Tryz.prog.rowNamed t [101, 114, 114, 111, 114]) = [32] := by kernel_rfl
theorem errT_of {W : World} (h : handlesMet Tryz.prog [("errors.errorType", Rows.laid_errors_errorType)] W) : ErrT W := by
 obtain ⟨name, u, ty, e1, e2, e3, e4, e5⟩ := h _ (List.mem_singleton.2 rfl)
 have en : name = [101, 114, 114, 111, 114] := (Option.some.inj e1).symm
 subst en
 obtain rfl := Option.some.inj (rtT.symm.trans e2)
 have hm : ty ∈ (List.range Tryz.prog.types.size).filter fun t => Tryz.prog.rowNamed t [101, 114, 114, 111, 114] := List.mem_filter.2 ⟨List.mem_range.2 e3, e4⟩
 rw [oneRow] at hm
 obtain rfl := List.mem_singleton.1 hm
 have hh : typeHandle Tryz.prog 32 = .pointer (some ⟨13, 32, none⟩) := by kernel_rfl
 rw [hh] at e5
 unfold ErrT
 simpa using World.var?_cell etG e5 0
theorem vars_sub {P : Program} {w : World} : ∀ {l' l : List (String × DataW Unit)}, l'.Sublist l → ∀ {ps : List MemPlace}, DataW.LaidVars P w l ps → ∃ ps', DataW.LaidVars P w l' ps' ∧ ps'.Sublist ps := by
 intro l' l hs
 induction hs with
 | slnil => exact fun {ps} h => ⟨ps, h, List.Sublist.refl _⟩
 | cons a _ ih =>
  intro ps h
  obtain ⟨n, d⟩ := a
  obtain ⟨g, t, cs, fuel, p, q, e1, e2, e3, e4, hr, rfl⟩ := h
  obtain ⟨q', hq, hs⟩ := ih hr
  exact ⟨q', hq, hs.trans (List.sublist_append_right _ _)⟩
 | cons_cons a _ ih =>
  intro ps h
  obtain ⟨n, d⟩ := a
  obtain ⟨g, t, cs, fuel, p, q, e1, e2, e3, e4, hr, rfl⟩ := h
  obtain ⟨q', hq, hs⟩ := ih hr
  exact ⟨_, ⟨g, t, cs, fuel, p, q', e1, e2, e3, e4, hq, rfl⟩, List.Sublist.append (List.Sublist.refl _) hs⟩
theorem laid_sub {P : Program} {w : World} {l' l : List (String × DataW Unit)} (hs : l'.Sublist l) (h : laidMet P l w) : laidMet P l' w := by
 obtain ⟨ps, hl, hnd, hrows⟩ := h
 obtain ⟨ps', hl', hs'⟩ := vars_sub hs hl
 exact ⟨ps', hl', hnd.sublist hs', fun b off hp => hrows b off (hs'.subset hp)⟩
theorem two_sub {α : Type} (l : List α) (i j : Nat) (hij : i < j) (hj : j < l.length) : List.Sublist [l[i]'(by omega), l[j]] l := by
 have e : l.drop i = l[i]'(by omega) :: l.drop (i + 1) := List.drop_eq_getElem_cons (by omega)
 have hm : l[j] ∈ l.drop (i + 1) := by
  have : l[j] = (l.drop (i + 1))[j - (i + 1)]'(by rw [List.length_drop]; omega) := by
   rw [List.getElem_drop]
   congr 1
   omega
  rw [this]
  exact List.getElem_mem _
 have h1 : List.Sublist [l[i]'(by omega), l[j]] (l.drop i) := by
  rw [e]
  exact (List.singleton_sublist.2 hm).cons_cons _
 exact h1.trans (List.drop_sublist _ _)
def snt (x : String × List UInt8 × Nat) : String × DataW Unit := (x.1, .iface "*errors.errorString" (.ptr (.agg [.lit (.string x.2.1)])))
theorem es_star : "*" ++ "errors.errorString" = "*errors.errorString" := by decide
theorem row_es (u : TypeId) (h : Tryz.prog.typeName? 3 u = some "*errors.errorString") : u = 256 :=
 typeName_ptr_named (nm := "errors.errorString") (by rw [es_star]; kernel_rfl) (by kernel_rfl) (by decide) u (by rw [es_star]; exact h)
theorem c_es : Tryz.prog.cellsOf 274 = 1 := by kernel_rfl
theorem c_st : Tryz.prog.cellsOf 9 = 1 := by kernel_rfl
theorem two_of {x y : String × List UInt8 × Nat} {W : World} (h : laidMet Tryz.prog [snt x, snt y] W)
  (hx : Tryz.prog.globalNamed x.1 = some x.2.2 ∧ (Tryz.prog.globals[x.2.2]?).map (·.type) = some 32) (hy : Tryz.prog.globalNamed y.1 = some y.2.2 ∧ (Tryz.prog.globals[y.2.2]?).map (·.type) = some 32) :
  ∃ a b : Addr, W.cell? ⟨x.2.2, 0, none⟩ = some (.iface 256 (.pointer (some a))) ∧ W.cell? ⟨y.2.2, 0, none⟩ = some (.iface 256 (.pointer (some b))) ∧ a ≠ b ∧ (∃ c t, W.heap[a.block]? = some (.cells c t (0, 0))) ∧ ∃ c t, W.heap[b.block]? = some (.cells c t (0, 0)) := by
 obtain ⟨a, b, s0, s1, c0, c1, t0, t1, h1, h2, _, _, _, _, _, _, h3, h4, h5⟩ := laid_sentinels2 h hx.1 hx.2 hy.1 hy.2 Tryz.underlying32 row_es Tryz.underlying256 Tryz.underlying274 rfl rfl Tryz.underlying9 c_es c_st
 exact ⟨a, b, by simpa using World.var?_cell hx.1 h1 0, by simpa using World.var?_cell hy.1 h2 0, h3, ⟨c0, t0, h4⟩, ⟨c1, t1, h5⟩⟩
def XS : List (String × List UInt8 × Nat) := [("roster/dn.ErrLong", [110, 97, 109, 101, 32, 116, 111, 111, 32, 108, 111, 110, 103], 0), ("roster/dn.ErrUTF8", [110, 111, 32, 85, 84, 70, 45, 56], 1), ("roster/dn.ErrType", [110, 111, 32, 97, 116, 116, 114, 105, 98, 117, 116, 101, 32, 116, 121, 112, 101], 2), ("roster/dn.ErrEquals", [110, 111, 32, 101, 113, 117, 97, 108, 115, 32, 115, 105, 103, 110], 3), ("roster/dn.ErrEscape", [110, 111, 116, 104, 105, 110, 103, 32, 114, 105, 103, 104, 116, 32, 98, 101, 104, 105, 110, 100, 32, 97, 32, 98, 97, 99, 107, 115, 108, 97, 115, 104], 4), ("roster/dn.ErrChar", [97, 32, 98, 121, 116, 101, 32, 116, 104, 97, 116, 32, 109, 117, 115, 116, 32, 98, 101, 32, 101, 115, 99, 97, 112, 101, 100], 5), ("roster/dn.ErrHex", [110, 111, 32, 104, 101, 120, 32, 118, 97, 108, 117, 101], 6), ("roster/dn.ErrTwice", [97, 32, 116, 121, 112, 101, 32, 116, 119, 105, 99, 101, 32, 105, 110, 32, 97, 32, 112, 97, 114, 116], 7), ("roster/dn.ErrWide", [116, 111, 111, 32, 109, 97, 110, 121, 32, 112, 97, 114, 116, 115, 32, 111, 114, 32, 112, 97, 105, 114, 115], 8), ("roster/dn.ErrMade", [97, 32, 110, 97, 109, 101, 32, 116, 104, 97, 116, 32, 110, 111, 32, 116, 101, 120, 116, 32, 109, 101, 97, 110, 115], 9)]
theorem xs_glob : ∀ x ∈ XS, Tryz.prog.globalNamed x.1 = some x.2.2 ∧ (Tryz.prog.globals[x.2.2]?).map (·.type) = some 32 := by
 intro x hx
 simp only [XS, List.mem_cons, List.mem_nil_iff, or_false] at hx
 rcases hx with rfl | rfl | rfl | rfl | rfl | rfl | rfl | rfl | rfl | rfl <;> exact ⟨by kernel_rfl, by kernel_rfl⟩
theorem pair_of {W : World} (h : laidMet Tryz.prog (XS.map snt) W) (i j : Fin 10) (hij : i < j) :
  ∃ a b : Addr, W.cell? ⟨(XS[i.val]'i.isLt).2.2, 0, none⟩ = some (.iface 256 (.pointer (some a))) ∧ W.cell? ⟨(XS[j.val]'j.isLt).2.2, 0, none⟩ = some (.iface 256 (.pointer (some b))) ∧ a ≠ b ∧ (∃ c t, W.heap[a.block]? = some (.cells c t (0, 0))) ∧ ∃ c t, W.heap[b.block]? = some (.cells c t (0, 0)) := by
 have hs : List.Sublist [snt (XS[i.val]'i.isLt), snt (XS[j.val]'j.isLt)] (XS.map snt) := by
  have e : [snt (XS[i.val]'i.isLt), snt (XS[j.val]'j.isLt)] = [XS[i.val]'i.isLt, XS[j.val]'j.isLt].map snt := rfl
  rw [e]
  exact (two_sub XS i.val j.val hij j.isLt).map snt
 exact two_of (laid_sub hs h) (xs_glob _ (List.getElem_mem _)) (xs_glob _ (List.getElem_mem _))
def adOf (W : World) (k : Nat) : Addr := match W.cell? ⟨(XS.getD (k - 50) ("", [], 0)).2.2, 0, none⟩ with
 | some (.iface _ (.pointer (some a))) => a
 | _ => ⟨0, 0, none⟩
theorem ad_eq {W : World} {i : Nat} (hi : i < XS.length) {a : Addr} {t : TypeId} (h : W.cell? ⟨(XS[i]'hi).2.2, 0, none⟩ = some (.iface t (.pointer (some a)))) : adOf W (50 + i) = a := by
 unfold adOf
 have e : XS.getD (50 + i - 50) ("", [], 0) = XS[i]'hi := by rw [Nat.add_sub_cancel_left]; simp only [List.getD, List.getElem?_eq_getElem hi, Option.getD_some]
 rw [e, h]
theorem sen_ix : ∀ x ∈ SenL, ∃ i : Fin 10, x = (50 + i.val, (XS[i.val]'i.isLt).2.2) := by
 intro x hx
 simp only [SenL, List.mem_cons, List.mem_nil_iff, or_false] at hx
 rcases hx with rfl | rfl | rfl | rfl | rfl | rfl | rfl | rfl | rfl | rfl
 ·exact ⟨0, rfl⟩
 ·exact ⟨1, rfl⟩
 ·exact ⟨2, rfl⟩
 ·exact ⟨3, rfl⟩
 ·exact ⟨4, rfl⟩
 ·exact ⟨5, rfl⟩
 ·exact ⟨6, rfl⟩
 ·exact ⟨7, rfl⟩
 ·exact ⟨8, rfl⟩
 ·exact ⟨9, rfl⟩
theorem sen_of {W : World} (h : laidMet Tryz.prog (XS.map snt) W) : Sen (adOf W) W := by
 have one : ∀ i : Fin 10, W.cell? ⟨(XS[i.val]'i.isLt).2.2, 0, none⟩ = some (.iface 256 (.pointer (some (adOf W (50 + i.val))))) ∧ ∃ c t, W.heap[(adOf W (50 + i.val)).block]? = some (.cells c t (0, 0)) := fun i => by
  by_cases hi : i < 9
  ·obtain ⟨a, b, h1, h2, h3, h4, h5⟩ := pair_of h i 9 hi
   rw [ad_eq i.isLt h1]
   exact ⟨h1, h4⟩
  ·have h0 : (0 : Fin 10) < i := by
    rw [Fin.lt_def] at hi ⊢
    show 0 < i.val
    have : (9 : Fin 10).val = 9 := rfl
    omega
   obtain ⟨a, b, h1, h2, h3, h4, h5⟩ := pair_of h 0 i h0
   rw [ad_eq i.isLt h2]
   exact ⟨h2, h5⟩
 have two : ∀ i j : Fin 10, i < j → adOf W (50 + i.val) ≠ adOf W (50 + j.val) := fun i j hij => by
  obtain ⟨a, b, h1, h2, h3, h4, h5⟩ := pair_of h i j hij
  rw [ad_eq i.isLt h1, ad_eq j.isLt h2]
  exact h3
 refine ⟨fun x hx => ?_, fun x hx y hy hne => ?_⟩
 ·obtain ⟨i, rfl⟩ := sen_ix x hx
  exact one i
 ·obtain ⟨i, rfl⟩ := sen_ix x hx
  obtain ⟨j, rfl⟩ := sen_ix y hy
  have hij : i ≠ j := fun e => hne (by rw [e])
  rcases Nat.lt_or_ge i.val j.val with q | q
  ·exact two i j (Fin.lt_def.2 q)
  ·have q' : j.val < i.val := by
    have : i.val ≠ j.val := fun e => hij (Fin.ext e)
    omega
   exact fun e => two j i (Fin.lt_def.2 q') e.symm
theorem laid_dnKeyOf {W : World} (hL : laidMetH Tryz.prog Rows.dnKeyOfRow.laid W) : Sen (adOf W) W ∧ ErrT W ∧ RowTab W := by
 have h' : laidMet Tryz.prog (("roster/rosterref01.rows", Rows.laid_roster_rosterref01_rows) :: XS.map snt) W ∧ handlesMet Tryz.prog [("errors.errorType", Rows.laid_errors_errorType)] W := hL
 exact ⟨sen_of h'.1.tail, errT_of h'.2, tab_rows h'.1⟩
end Ke
end Go.Proofs.YtkknenmpdimdbaaGreatDoor

namespace Go.Proofs.YtkknenmpdimdbaaGreatDoor
namespace TextMath
def dg (n : Nat) : UInt8 := UInt8.ofNat (if n < 10 then 48 + n else 87 + n)
def hex (l : List UInt8) : List UInt8 := l.flatMap fun b => [dg (b.toNat / 16), dg (b.toNat % 16)]
def wo (b : UInt8) : Option Nat :=
 if 48 ≤ b.toNat ∧ b.toNat ≤ 57 then some (b.toNat - 48)
 else if 97 ≤ b.toNat ∧ b.toNat ≤ 102 then some (b.toNat - 87)
 else if 65 ≤ b.toNat ∧ b.toNat ≤ 70 then some (b.toNat - 55) else none
theorem wo_lt (b : UInt8) (n : Nat) (h : wo b = some n) : n < 16 := by
 unfold wo at h
 repeat' split at h
 all_goals first | (injection h with h; omega) | cases h
def unhex : List UInt8 → Nat → Except Nat (List UInt8)
 | [], _ => .ok []
 | [a], k => match wo a with
  | none => .error k
  | some _ => .error (k + 1)
 | a :: b :: t, k => match wo a, wo b with
  | none, _ => .error k
  | some _, none => .error (k + 1)
  | some x, some y => match unhex t (k + 2) with
   | .ok r => .ok (UInt8.ofNat (16 * x + y) :: r)
   | .error p => .error p
def pre (o : List UInt8) : Except Nat (List UInt8) → Except Nat (List UInt8)
 | .ok t => .ok (o ++ t)
 | .error p => .error p
theorem pre_nil (r : Except Nat (List UInt8)) : pre [] r = r := by cases r <;> rfl
theorem pre_pre (o p : List UInt8) (r : Except Nat (List UInt8)) : pre o (pre p r) = pre (o ++ p) r := by cases r <;> simp [pre]
theorem unhex_bad (a : UInt8) (t : List UInt8) (k : Nat) (h : wo a = none) : unhex (a :: t) k = .error k := by
 cases t with
 | nil => simp [unhex, h]
 | cons b r => simp [unhex, h]
theorem unhex_odd (a : UInt8) (k : Nat) (x : Nat) (h : wo a = some x) : unhex [a] k = .error (k + 1) := by simp [unhex, h]
theorem unhex_bad2 (a b : UInt8) (t : List UInt8) (k x : Nat) (h : wo a = some x) (hb : wo b = none) : unhex (a :: b :: t) k = .error (k + 1) := by simp [unhex, h, hb]
theorem unhex_pair (a b : UInt8) (t : List UInt8) (k x y : Nat) (h : wo a = some x) (hb : wo b = some y) : unhex (a :: b :: t) k = pre [UInt8.ofNat (16 * x + y)] (unhex t (k + 2)) := by
 simp only [unhex, h, hb]
 cases unhex t (k + 2) <;> rfl
end TextMath
end Go.Proofs.YtkknenmpdimdbaaGreatDoor

namespace Go.Proofs.YtkknenmpdimdbaaGreatDoor
namespace Pa
open TextMath (fold lo normal check wo)
open Ke (tyOk tyC utf PR)
set_option linter.unusedVariables false
def tb (c : UInt8) : Bool := decide (97 ≤ c.toNat ∧ c.toNat ≤ 122) || decide (65 ≤ c.toNat ∧ c.toNat ≤ 90) || decide (48 ≤ c.toNat ∧ c.toNat ≤ 57) || decide (c.toNat = 45) || decide (c.toNat = 46)
def hd (c : UInt8) : Bool := (wo c).isSome
def hb (a b : UInt8) : UInt8 := UInt8.ofNat (16 * (wo a).getD 0 + (wo b).getD 0)
def esL : List UInt8 := [92, 34, 43, 44, 59, 60, 62, 35, 61, 32]
def es (c : UInt8) : Bool := esL.contains c
def bar (c : UInt8) : Bool := c == 0 || c == 34 || c == 59 || c == 60 || c == 62
def kB : List UInt8 → Nat
 | [] => 1
 | a :: r => if es a = true then 4 else match r with
  | [] => 1
  | b :: _ => if (hd a && hd b) = true then 3 else 1
def kO : List UInt8 → Nat
 | [] => 0
 | c :: r => if c = 44 ∨ c = 43 then 0 else if c = 92 then kB r else if bar c = true then 2 else if c = 32 then 6 else 5
abbrev VR := Except (Nat × Nat) (List UInt8 × List UInt8)
def tv : Nat → List UInt8 → List UInt8 → Nat → VR
 | 0, l, a, c => .error (0, l.length)
 | n + 1, l, a, c =>
  if kO l = 0 then .ok (a.take c, l)
  else if kO l = 1 then .error (54, l.length)
  else if kO l = 2 then .error (55, l.length)
  else if kO l = 3 then tv n (l.drop 3) (a ++ [hb (l.getD 1 0) (l.getD 2 0)]) (a.length + 1)
  else if kO l = 4 then tv n (l.drop 2) (a ++ [l.getD 1 0]) (a.length + 1)
  else if kO l = 5 then tv n (l.drop 1) (a ++ [l.getD 0 0]) (a.length + 1)
  else tv n (l.drop 1) (a ++ [l.getD 0 0]) c
def pv (hx : List UInt8 → Option VR) (l : List UInt8) : Option VR :=
 (if l.head? = some 35 then hx (l.drop 1) else some (tv (l.length + 1) l [] 0)).map fun v => match v with
  | .error e => .error e
  | .ok x => if utf x.1 = true then .ok x else .error (51, l.length)
def sp (l : List UInt8) : List UInt8 := l.dropWhile (· == 32)
def pt (ahead : List (List UInt8)) (l : List UInt8) : VR :=
 if tyOk (l.takeWhile tb) = false then .error (52, l.length)
 else if tyC (l.takeWhile tb) ∈ ahead then .error (57, l.length)
 else if (sp (l.dropWhile tb)).head? = some 61 then .ok (l.takeWhile tb, sp ((sp (l.dropWhile tb)).drop 1))
 else .error (53, (sp (l.dropWhile tb)).length)
abbrev PRs := Except (Nat × Nat) (List PR × List UInt8)
def prt (hx : List UInt8 → Option VR) : Nat → Nat → List PR → List UInt8 → Option PRs
 | 0, _, _, _ => none
 | n + 1, num, ps, l =>
  if num = 64 ∨ ps.length = 8 then some (.error (58, (sp l).length))
  else match pt (ps.map fun p => tyC p.1) (sp l) with
   | .error e => some (.error e)
   | .ok x => match pv hx x.2 with
    | none => none
    | some (.error e) => some (.error e)
    | some (.ok y) => if y.2.head? = some 43 then prt hx n num (ps ++ [(x.1, y.1)]) (y.2.drop 1) else some (.ok (ps ++ [(x.1, y.1)], y.2))
abbrev DRs := Except (Nat × Nat) (List (List PR))
def nmP (hx : List UInt8 → Option VR) : Nat → List (List PR) → List UInt8 → Option DRs
 | 0, _, _ => none
 | n + 1, D, l => match prt hx 9 D.length [] l with
  | none => none
  | some (.error e) => some (.error e)
  | some (.ok x) => if x.2.head? = some 44 then nmP hx n (D ++ [x.1]) (x.2.drop 1) else some (.ok (D ++ [x.1]))
def prs (hx : List UInt8 → Option VR) (s : List UInt8) : Option DRs :=
 if 4096 < s.length then some (.error (50, s.length - 4096))
 else if utf s = false then some (.error (51, s.length - (check s).2))
 else if s = [] then some (.ok [])
 else nmP hx 65 [] s
theorem tv_step (n : Nat) (l a : List UInt8) (c : Nat) : tv (n + 1) l a c = if kO l = 0 then .ok (a.take c, l)
  else if kO l = 1 then .error (54, l.length)
  else if kO l = 2 then .error (55, l.length)
  else if kO l = 3 then tv n (l.drop 3) (a ++ [hb (l.getD 1 0) (l.getD 2 0)]) (a.length + 1)
  else if kO l = 4 then tv n (l.drop 2) (a ++ [l.getD 1 0]) (a.length + 1)
  else if kO l = 5 then tv n (l.drop 1) (a ++ [l.getD 0 0]) (a.length + 1)
  else tv n (l.drop 1) (a ++ [l.getD 0 0]) c := rfl
end Pa
end Go.Proofs.YtkknenmpdimdbaaGreatDoor

namespace Go.Proofs.YtkknenmpdimdbaaGreatDoor
namespace Pa
open Go.RowKit
open TextMath (fold lo normal check wo)
open Ke (tyOk tyC utf PR)
set_option linter.unusedVariables false
set_option linter.unusedSimpArgs false
def Rd (W : World) (b : Nat) (s : ByteArray) (p : Nat) : Prop := W.heap[b]? = some (.cells #[.string s, .int .i64 (p : Int)] 72 (0, 0))
def Wb (b : Nat) (w w' : World) : Prop := Below b w w' ∧ ∀ k, k < w.heap.size → k ≠ b → w'.heap[k]? = w.heap[k]?
variable {w w' w1 w2 W W' : World} {b p q : Nat} {s : ByteArray}
theorem Wb.refl (b : Nat) (w : World) : Wb b w w := ⟨Below.refl _ _, fun _ _ _ => rfl⟩
theorem Wb.size (h : Wb b w w') : w.heap.size ≤ w'.heap.size := h.1.size
theorem Wb.trans (h1 : Wb b w w1) (h2 : Wb b w1 w2) : Wb b w w2 := ⟨h1.1.trans h2.1, fun k hk hne => by rw [h2.2 k (Nat.lt_of_lt_of_le hk h1.size) hne, h1.2 k hk hne]⟩
theorem Wb.of_below (hb : Below w.heap.size w w') (h : b ≤ w.heap.size) : Wb b w w' := ⟨hb.mono h, fun k hk _ => hb.block k hk⟩
theorem Wb.set (h : Wb b w w') (i : Nat) (v : Value) : Wb b w (w'.setCell ⟨b, i, none⟩ v) := ⟨h.1.setCell (p := ⟨b, i, none⟩) (Nat.le_refl _) v, fun k hk hne => by rw [Go.heap_setCell_other _ _ _ _ (show k ≠ b from hne), h.2 k hk hne]⟩
theorem Wb.cell (h : Wb b w w') {k o : Nat} {v : Value} (hc : w.cell? ⟨k, o, none⟩ = some v) (hne : k ≠ b) : w'.cell? ⟨k, o, none⟩ = some v := by
 have hk := World.block_lt_of_cell? _ _ hc
 rw [← hc]
 unfold World.cell?
 rw [h.2 k hk hne]
theorem Rd.lt (h : Rd W b s p) : b < W.heap.size := (Array.getElem?_eq_some_iff.1 h).1
theorem Rd.cells (h : Rd W b s p) : W.cell? ⟨b, 0, none⟩ = some (.string s) ∧ W.cell? ⟨b, 1, none⟩ = some (.int .i64 (p : Int)) ∧ W.frozen? ⟨b, 1, none⟩ = false := by
 have h := h
 unfold Rd at h
 exact ⟨by simp [World.cell?, h], by simp [World.cell?, h], by simp [World.frozen?, h]⟩
theorem Rd.set (h : Rd W b s p) (q : Nat) : Rd (W.setCell ⟨b, 1, none⟩ (.int .i64 (q : Int))) b s q := by
 unfold Rd at *
 rw [Go.heap_setCell_same _ _ _ _ _ _ h]
 simp
theorem Rd.below (h : Rd W b s p) (hb : Below W.heap.size W W') : Rd W' b s p := by
 unfold Rd at *
 rw [hb.block b (Array.getElem?_eq_some_iff.1 h).1]
 exact h
abbrev lf (s : ByteArray) (p : Nat) : List UInt8 := s.data.toList.drop p
theorem lf_cons (h : p < s.size) : lf s p = s[p] :: lf s (p + 1) := by
 unfold lf
 rw [List.drop_eq_getElem_cons (by rw [size_l]; exact h)]
 rfl
theorem lf_nil (h : s.size ≤ p) : lf s p = [] := List.drop_of_length_le (by rw [size_l]; exact h)
theorem lf_len : (lf s p).length = s.size - p := by unfold lf; rw [List.length_drop, size_l]
theorem lf_drop (n : Nat) : (lf s p).drop n = lf s (p + n) := by unfold lf; rw [List.drop_drop]
end Pa
end Go.Proofs.YtkknenmpdimdbaaGreatDoor

namespace Go.Proofs.YtkknenmpdimdbaaGreatDoor
namespace Pa
open Go.RowKit
open TextMath (fold lo normal check wo)
open Ke (tyOk tyC utf PR)
set_option linter.unusedVariables false
set_option linter.unusedSimpArgs false
set_option maxRecDepth 100000
def TkQ (c : UInt8) (s : ByteArray) (p b : Nat) (w : World) (e : Ending) (w' : World) : Prop :=
 ((lf s p).head? = some c ∧ p < s.size ∧ e = .returned (.bool true) ∧ Rd w' b s (p + 1) ∧ Wb b w w') ∨ ((lf s p).head? ≠ some c ∧ e = .returned (.bool false) ∧ Rd w' b s p ∧ Wb b w w')
theorem lf_head {s : ByteArray} {p : Nat} (h : p < s.size) : (lf s p).head? = some s[p] := by rw [lf_cons h]; rfl
theorem lf_none {s : ByteArray} {p : Nat} (h : s.size ≤ p) : (lf s p).head? = none := by rw [lf_nil h]; rfl
theorem wb_drew {w : World} {b n : Nat} : Wb b w (w.drewN n) := ⟨⟨rfl, rfl, rfl, Nat.le_refl _, fun _ _ => rfl⟩, fun _ _ _ => rfl⟩
set_option maxHeartbeats 1000000 in
theorem take_any (c : UInt8) (s : ByteArray) (p b : Nat) (w : World) (h : Rd w b s p) (hp : p ≤ s.size) (hs : s.size ≤ 4096) :
  Calls Tryz.prog 58 #[.pointer (some ⟨b, 0, none⟩), .int .u8 (c.toNat : Int)] w fun e w' => TkQ c s p b w e w' := by
 obtain ⟨c0, c1, z1⟩ := h.cells
 have h' : Hid (Rd w b s p) := h
 have p0 : (0 : Int) ≤ (p : Int) := Int.natCast_nonneg _
 have pb : (p : Int) ≤ 4096 := by omega
 clear h
 by_cases hlt : p < s.size
 ·have k1 : (p : Int) < (s.size : Int) := Int.ofNat_lt.2 hlt
  have g1 : ((p : Int) == (s.size : Int)) = false := by rw [beq_eq_false_iff_ne]; omega
  have hh : Hid ((lf s p).head? = some s[p]) := lf_head hlt
  obtain ⟨x, hx⟩ : ∃ x, s[p] = x := ⟨_, rfl⟩
  rw [hx] at hh
  by_cases hc : x = c
  ·subst hc
   have g2 : ((x.toNat : Int) != (x.toNat : Int)) = false := by simp
   have hlt' : Hid (p < s.size) := hlt
   have hd1 : (w.cell? ⟨b, 1, none⟩ = some (.int .i64 (p : Int)) ∧ w.frozen? ⟨b, 1, none⟩ = false) := ⟨c1, z1⟩
   go_enter Tryz.func58, Tryz.ntmps58
   go_wp2_with fail
   go_quiet (fail)
   rename_i nq
   have hR : Hid (Rd (w.drewN nq) b s p ∧ Wb b w (w.drewN nq)) := ⟨h'.out, wb_drew⟩
   obtain ⟨W2, hW2⟩ : ∃ W, w.drewN nq = W := ⟨_, rfl⟩
   rw [hW2] at hR ⊢
   obtain ⟨d0, d1, d2⟩ := hR.out.1.cells
   clear hW2 c0 c1 z1 hd1
   go_wp2_with fail
   go_ret
   exact Or.inl ⟨hh.out, hlt'.out, rfl, hR.out.1.set (p + 1), hR.out.2.set 1 _⟩
  ·have g2 : ((x.toNat : Int) != (c.toNat : Int)) = true := by
    have : x.toNat ≠ c.toNat := fun e => hc (UInt8.toNat_inj.1 e)
    simp
    omega
   have hc' : Hid (x ≠ c) := hc
   clear hc
   go_enter Tryz.func58, Tryz.ntmps58
   go_wp2_with fail
   go_quiet (fail)
   rename_i nq
   have hR : Hid (Rd (w.drewN nq) b s p ∧ Wb b w (w.drewN nq)) := ⟨h'.out, wb_drew⟩
   obtain ⟨W2, hW2⟩ : ∃ W, w.drewN nq = W := ⟨_, rfl⟩
   rw [hW2] at hR ⊢
   clear hW2 c0 c1 z1
   go_wp2_with fail
   go_ret
   exact Or.inr ⟨(by rw [hh.out]; intro e; injection e with e; exact hc'.out e), rfl, hR.out.1, hR.out.2⟩
 ·have hpe : p = s.size := by omega
  have g1 : ((p : Int) == (s.size : Int)) = true := by rw [hpe]; simp
  have hh : Hid ((lf s p).head? = none) := lf_none (by omega)
  have hpe' : Hid (p = s.size) := hpe
  clear hpe hlt
  go_enter Tryz.func58, Tryz.ntmps58
  go_wp2_with fail
  go_quiet (fail)
  rename_i nq
  have hR : Hid (Rd (w.drewN nq) b s p ∧ Wb b w (w.drewN nq)) := ⟨h'.out, wb_drew⟩
  obtain ⟨W2, hW2⟩ : ∃ W, w.drewN nq = W := ⟨_, rfl⟩
  rw [hW2] at hR ⊢
  clear hW2 c0 c1 z1
  go_wp2_with fail
  go_ret
  exact Or.inr ⟨(by rw [hh.out]; intro e; cases e), rfl, hR.out.1, hR.out.2⟩
end Pa
end Go.Proofs.YtkknenmpdimdbaaGreatDoor
