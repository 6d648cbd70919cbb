import Derived.Lib.AppendZeros
import Derived.Test.YtoomoicjoockjaaGreatDoorLdRef
import Derived.Test.YtoomoicjoockjaaGreatDoorGLu
namespace Go.Proofs.YtoomoicjoockjaaGreatDoor
open Go.RowKit
open LdMath

/-- A row of the texts of lines. -/
def RowT (w : World) (a : Option Addr) (PL : List (Nat × List UInt8)) : Prop := ∀ i (h : i < PL.length), ∃ g, a = some ⟨g, 0, none⟩ ∧ w.cell? ⟨g, i, none⟩ = some (.string (S PL[i].2))
theorem rowT_of {w : World} {B : Nat} {v : Value} {PL : List (Nat × List UInt8)} (h : OwnS w B v (txs PL)) : ∃ a c, v = .slice a PL.length c ∧ RowT w a PL := by
  rcases ownS_form h with ⟨rfl, h0⟩ | ⟨g, cap, rfl⟩
  · have : PL.length = 0 := by rw [← txs_len, h0]; rfl
    exact ⟨none, 0, by rw [this], fun i hi => by omega⟩
  · refine ⟨_, cap, by rw [txs_len], fun i hi => ⟨g, rfl, ?_⟩⟩
    have := ownS_cell h i (by rw [txs_len]; exact hi)
    rw [this]
    simp [txs]
theorem RowT.below {w w' : World} {a : Option Addr} {PL : List (Nat × List UInt8)} (h : RowT w a PL) (hb : Below w.heap.size w w') : RowT w' a PL := fun i hi => by
  obtain ⟨g, e, hc⟩ := h i hi
  refine ⟨g, e, ?_⟩
  rw [hb.cell (World.block_lt_of_cell? w _ hc)]
  exact hc
theorem take_next {α : Type} (l : List α) (i : Nat) (h : i < l.length) : l.take (i + 1) = l.take i ++ [l[i]] := List.take_succ_eq_append_getElem h
theorem parts_of {α : Type} (l : List α) (i : Nat) (h : i < l.length) : l.take i ++ [l[i]] ++ l.drop (i + 1) = l := by rw [← take_next l i h, List.take_append_drop]
theorem lastA_take (PL : List (Nat × List UInt8)) (i : Nat) (h : i < PL.length) : lastA [] (PL.take (i + 1)) = PL[i].2 := by rw [take_next PL i h, lastA_snoc]
theorem size_S (t : List UInt8) : (S t).size = t.length := S_size t
theorem S_get (x : UInt8) (r : List UInt8) (h : 0 < (S (x :: r)).size) : (S (x :: r))[0]'h = x := rfl

theorem first_not (PL : List (Nat × List UInt8)) (h : ferr [] PL = none) : ∀ h0 : 0 < PL.length, goes (PL[0]'h0).2 = false := by
  intro h0
  cases PL with
  | nil => simp at h0
  | cons x xs =>
    unfold ferr at h
    cases hf : flt [] x.2 with
    | some e => rw [hf] at h; cases h
    | none =>
      have := (flt_ok hf).2
      simpa using this
theorem ownG_slice {w : World} {B : Nat} {v : Value} {l : List UInt8} (h : OwnG w B v l) : ∃ a n c, v = .slice a n c := by
  obtain ⟨g, cap, cur, fz, rfl, _⟩ := h
  exact ⟨_, _, _, rfl⟩

set_option maxRecDepth 1000000 in
set_option maxHeartbeats 4000000 in
theorem rlines_any (s : ByteArray) (hs : s.size ≤ 1048576) (w : World) : Calls Tryz.prog 25 #[.string s] w fun e w' => ∃ v er ln, e = .returned (.tuple #[v, .int .i64 ((er : Nat) : Int), .int .i64 ((ln : Nat) : Int)]) ∧ UnfIs s.data.toList w.heap.size w' v er ln ∧ Below w.heap.size w w' := by
  have hP : Hid (Calls Tryz.prog 26 #[.string s] w fun e w' => ∃ v, e = .returned v ∧ OwnS w' w.heap.size v (txs (phys s.data.toList)) ∧ Below w.heap.size w w') := rphys_any s hs w
  have hnum := phys_num s.data.toList
  have hlenP : (phys s.data.toList).length ≤ 1048577 := by have := phys_len s.data.toList; rw [size_l] at this; omega
  have htotP : ltot (phys s.data.toList) ≤ 1048576 := by have := phys_tot s.data.toList; rw [size_l] at this; omega
  unfold UnfIs
  obtain ⟨PL, hPL⟩ : ∃ PL, phys s.data.toList = PL := ⟨_, rfl⟩
  rw [hPL] at hP hnum hlenP htotP ⊢
  have hnum' : Hid (∀ i (h : i < PL.length), PL[i].1 = i + 1) := hnum
  have htot' : Hid (ltot PL ≤ 1048576) := htotP
  clear hnum htotP hPL hs
  go_enter Tryz.func25, Tryz.ntmps25
  go_wp2_with (go_at_call 26; refine hP.out.mono ?_; rintro e w1 ⟨v, rfl, hO, hB1⟩; obtain ⟨a, c, rfl, hR⟩ := rowT_of hO)
  obtain ⟨n, hn⟩ : ∃ n, PL.length = n := ⟨_, rfl⟩
  rw [hn]
  rw [hn] at hlenP
  have hlenP' : Hid (n ≤ 1048577) := hlenP
  have hB1' : Hid (Below w.heap.size w w1) := hB1
  have hR' : Hid (RowT w1 a PL) := hR
  have hn' : Hid (PL.length = n) := hn
  clear hP hO hB1 hR hn hlenP
  go_loopw [6] (fun iv wr => ∃ i : Nat, i ≤ n ∧ iv = .int .i64 (i : Int) ∧ wr = w1 ∧ Hid (ferr [] (PL.take i) = none)) (fun iv _ => n - (intOf iv).toNat)
  case atStart => exact ⟨0, Nat.zero_le _, rfl, rfl, rfl⟩
  case round =>
    obtain ⟨i, hle, rfl, rfl, hf⟩ := hrel
    have i0 : (0 : Int) ≤ (i : Int) := Int.natCast_nonneg _
    have i1 : (i : Int) < 1048578 := by have := hlenP'.out; omega
    by_cases hlt : i < n
    · have hiP : i < PL.length := by rw [hn'.out]; exact hlt
      obtain ⟨g, rfl, cI⟩ := hR'.out i hiP
      obtain ⟨t, ht⟩ : ∃ t, PL[i].2 = t := ⟨_, rfl⟩
      have hn1 : Hid (PL[i].1 = i + 1) := hnum'.out i hiP
      have hpt : Hid (PL.take i ++ [PL[i]] ++ PL.drop (i + 1) = PL) := parts_of PL i hiP
      have hnx : Hid (PL.take (i + 1) = PL.take i ++ [PL[i]]) := take_next PL i hiP
      rw [ht] at cI
      have htl : t.length ≤ 1048576 := by
        have h1 : ltot PL = ltot (PL.take i ++ [PL[i]] ++ PL.drop (i + 1)) := by rw [hpt.out]
        have h2 := htot'.out
        have h3 : t.length ≤ ltot (PL.take i ++ [PL[i]] ++ PL.drop (i + 1)) := by
          refine Nat.le_trans ?_ (ltot_pre (List.prefix_append _ _))
          rw [ltot_snoc, ht]
          omega
        omega
      have hH : ∀ W, Hid (Calls Tryz.prog 40 #[.string (S t), .int .u8 13] W fun e w' => e = .returned (.bool (t.contains 13)) ∧ w' = W) := fun W => by
        have := has_any (S t) 13 W (by rw [S_size]; omega)
        rw [S_l] at this
        exact this
      have i2 : (i : Int) < (n : Int) := by omega
      have bad : ∀ e, flt (lastA [] (PL.take i)) t = some e → Hid (ferr [] PL = some (e, i + 1)) := fun e he => by
        have := ferr_bad (PL.take i) (PL.drop (i + 1)) PL[i] e hf.out (by rw [ht]; exact he)
        rw [hpt.out, hn1.out] at this
        exact this
      have good : flt (lastA [] (PL.take i)) t = none → Hid (ferr [] (PL.take (i + 1)) = none) := fun he => by
        unfold Hid
        rw [hnx.out]
        exact ferr_ok _ _ hf.out (by rw [ht]; exact he)
      have hlt' : Hid (i < n) := hlt
      cases hcr : t.contains 13 with
      | true =>
        rw [hcr] at hH
        have hbad := bad 70 (by unfold flt; rw [hcr]; rfl)
        clear bad good hpt hnx hn1 ht htl hf hlt hle hcr
        go_wp2_with (go_at_call 40; refine (hH _).out.mono ?_; rintro e w' ⟨rfl, rfl⟩)
        go_ret3
        refine ⟨.slice none 0 0, 70, i + 1, rfl, ?_, hB1'.out⟩
        unfold UnfP
        rw [hbad.out]
        exact ⟨rfl, rfl, rfl⟩
      | false =>
        rw [hcr] at hH
        cases t with
        | nil =>
          have hgood := good (by unfold flt; rw [hcr]; rfl)
          rw [show S [] = (⟨#[]⟩ : ByteArray) from rfl] at cI hH
          clear bad good hpt hnx hn1 ht htl hf hlt hle hcr
          go_wp2_with (go_at_call 40; refine (hH _).out.mono ?_; rintro e w' ⟨rfl, rfl⟩)
          go_roundw
          case rel => exact ⟨i + 1, hlt'.out, by simp, trivial, hgood⟩
          case measure => have := hlt'.out; simp [intOf]; omega
        | cons y r =>
          have hT0 : 0 < (S (y :: r)).size := by rw [S_size]; simp
          have hTg := S_get y r hT0
          by_cases hy : y = 32
          · have hgo : goes (y :: r) = true := by rw [hy]; rfl
            have hb : (((S (y :: r))[0]'hT0).toNat : Int) = 32 := by rw [hTg, hy]; rfl
            by_cases hi0 : i = 0
            · subst hi0
              have hbad := bad 71 (by unfold flt; rw [hcr, hgo]; rfl)
              obtain ⟨T, hT0', hb1, cI', hH'⟩ : ∃ (T : ByteArray) (h : 0 < T.size), (((T[0]'h).toNat : Int) = 32) ∧ wr.cell? ⟨g, 0, none⟩ = some (.string T) ∧ ∀ W, Hid (Calls Tryz.prog 40 #[.string T, .int .u8 13] W fun e w' => e = .returned (.bool false) ∧ w' = W) := ⟨S (y :: r), hT0, hb, cI, hH⟩
              clear hTg hT0 hb cI hH
              clear bad good hpt hnx hn1 ht htl hf hlt hle hcr
              go_wp2_with (go_at_call 40; refine (hH' _).out.mono ?_; rintro e w' ⟨rfl, rfl⟩)
              go_ret3
              refine ⟨.slice none 0 0, 71, 0 + 1, rfl, ?_, hB1'.out⟩
              unfold UnfP
              rw [hbad.out]
              exact ⟨rfl, rfl, rfl⟩
            · obtain ⟨j, hj⟩ : ∃ j, i = j + 1 := ⟨i - 1, by omega⟩
              have hjP : j < PL.length := by omega
              obtain ⟨g', hg', cJ⟩ := hR'.out j hjP
              injection hg' with hg'
              injection hg' with hg' _ _
              subst hg'
              have hla : lastA [] (PL.take i) = (PL[j]'hjP).2 := by have := lastA_take PL j hjP; rw [← hj] at this; exact this
              rw [hla] at bad good
              obtain ⟨u, hu⟩ : ∃ u, (PL[j]'hjP).2 = u := ⟨_, rfl⟩
              rw [hu] at bad good cJ
              have j0 : (0 : Int) ≤ (j : Int) := Int.natCast_nonneg _
              have j1 : (i : Int) - 1 = (j : Int) := by omega
              have j2 : wrap64 ((i : Int) - 1) = (j : Int) := by unfold wrap64; omega
              have j3 : (j : Int) < (n : Int) := by omega
              have i3 : ((i : Int) == 0) = false := by rw [beq_eq_false_iff_ne]; omega
              by_cases hue : u = []
              · have hbad := bad 71 (by unfold flt; rw [hcr, hgo, hue]; rfl)
                rw [hue, show S [] = (⟨#[]⟩ : ByteArray) from rfl] at cJ
                obtain ⟨T, hT0', hb1, cI', hH'⟩ : ∃ (T : ByteArray) (h : 0 < T.size), (((T[0]'h).toNat : Int) = 32) ∧ wr.cell? ⟨g, i, none⟩ = some (.string T) ∧ ∀ W, Hid (Calls Tryz.prog 40 #[.string T, .int .u8 13] W fun e w' => e = .returned (.bool false) ∧ w' = W) := ⟨S (y :: r), hT0, hb, cI, hH⟩
                clear hTg hT0 hb cI hH
                clear bad good hpt hnx hn1 ht htl hf hlt hle hcr hj hla hu hi0
                go_wp2_with (go_at_call 40; refine (hH' _).out.mono ?_; rintro e w' ⟨rfl, rfl⟩)
                go_ret3
                refine ⟨.slice none 0 0, 71, i + 1, rfl, ?_, hB1'.out⟩
                unfold UnfP
                rw [hbad.out]
                exact ⟨rfl, rfl, rfl⟩
              · have hgood := good (by
                  unfold flt
                  rw [hcr, hgo]
                  cases u with
                  | nil => exact absurd rfl hue
                  | cons a b => rfl)
                have hne : (S u).toList.isEmpty = false := by rw [toList_S]; simpa using hue
                obtain ⟨T, hT0', hb1, cI', hH'⟩ : ∃ (T : ByteArray) (h : 0 < T.size), (((T[0]'h).toNat : Int) = 32) ∧ wr.cell? ⟨g, i, none⟩ = some (.string T) ∧ ∀ W, Hid (Calls Tryz.prog 40 #[.string T, .int .u8 13] W fun e w' => e = .returned (.bool false) ∧ w' = W) := ⟨S (y :: r), hT0, hb, cI, hH⟩
                clear hTg hT0 hb cI hH
                obtain ⟨U, hU⟩ : ∃ U, S u = U := ⟨_, rfl⟩
                rw [hU] at cJ hne
                clear bad good hpt hnx hn1 ht htl hf hlt hle hcr hj hla hu hi0 hU hue
                go_wp2_with (go_at_call 40; refine (hH' _).out.mono ?_; rintro e w' ⟨rfl, rfl⟩)
                go_roundw
                case rel => exact ⟨i + 1, hlt'.out, by simp, trivial, hgood⟩
                case measure => have := hlt'.out; simp [intOf]; omega
          · have hgo : goes (y :: r) = false := by
              show (some y == some 32) = false
              simpa using hy
            have hb : ¬ (((S (y :: r))[0]'hT0).toNat : Int) = 32 := by
              rw [hTg]
              intro e
              apply hy
              apply UInt8.toNat_inj.1
              show _ = 32
              omega
            have hgood := good (by unfold flt; rw [hcr, hgo]; rfl)
            obtain ⟨T, hT0', hb1, cI', hH'⟩ : ∃ (T : ByteArray) (h : 0 < T.size), (¬ ((T[0]'h).toNat : Int) = 32) ∧ wr.cell? ⟨g, i, none⟩ = some (.string T) ∧ ∀ W, Hid (Calls Tryz.prog 40 #[.string T, .int .u8 13] W fun e w' => e = .returned (.bool false) ∧ w' = W) := ⟨S (y :: r), hT0, hb, cI, hH⟩
            clear hTg hT0 hb cI hH
            have hb2 : (((T[0]'hT0').toNat : Int) == 32) = false := by simpa using hb1
            clear bad good hpt hnx hn1 ht htl hf hlt hle hcr hb1
            go_wp2_with (go_at_call 40; refine (hH' _).out.mono ?_; rintro e w' ⟨rfl, rfl⟩)
            go_roundw
            case rel => exact ⟨i + 1, hlt'.out, by simp, trivial, hgood⟩
            case measure => have := hlt'.out; simp [intOf]; omega
    · have he : n = i := by omega
      subst he
      have hok : Hid (ferr [] PL = none) := by
        have := hf.out
        rw [List.take_of_length_le (by rw [hn'.out]; exact Nat.le_refl _)] at this
        exact this
      clear hlt hle hf i0 i1
      go_wp2
      obtain ⟨W1, rfl⟩ : ∃ W1, W1 = wr := ⟨_, rfl⟩
      go_loopw [8, 9] (fun lv iv wr => ∃ (i : Nat) (al : Option Addr) (nl cl : Nat), i ≤ n ∧ iv = .int .i64 (i : Int) ∧ lv = .slice al nl cl ∧ Hid (OwnL wr W1.heap.size (.slice al nl cl) (joinS (PL.take i))) ∧ Hid (Below W1.heap.size W1 wr) ∧ Hid (∀ h : i < PL.length, goes (PL[i]'h).2 = false)) (fun _ iv _ => n - (intOf iv).toNat)
      case atStart => exact ⟨0, none, 0, 0, Nat.zero_le _, rfl, rfl, ownL_nil _ _, Below.refl _ _, first_not PL hok.out⟩
      case round =>
        obtain ⟨i, al, nl, cl, hle, rfl, rfl, hL, hB, hng⟩ := hrel
        have i0 : (0 : Int) ≤ (i : Int) := Int.natCast_nonneg _
        have i1 : (i : Int) < 1048578 := by have := hlenP'.out; omega
        by_cases hlt : i < n
        · have hiP : i < PL.length := by rw [hn'.out]; exact hlt
          obtain ⟨g, rfl, cI⟩ := (hR'.out.below hB.out) i hiP
          obtain ⟨t, ht⟩ : ∃ t, PL[i].2 = t := ⟨_, rfl⟩
          have hnx : PL.take (i + 1) = PL.take i ++ [PL[i]] := take_next PL i hiP
          have hx : PL[i] = (i + 1, t) := by rw [← ht, ← hnum'.out i hiP]
          have hJ0 : Hid (joinS (PL.take (i + 1)) = joinS (PL.take i) ++ [(i + 1, t)]) := by
            unfold Hid
            rw [hnx, joinS_new _ _ (hng.out hiP), hx]
          have hjl : Hid ((joinS (PL.take i)).length ≤ 16777216) := by
            have h1 := (joinS_sizes (PL.take i)).1
            rw [List.length_take] at h1
            have h2 := hlenP'.out
            unfold Hid
            omega
          have hts : ∀ k, Hid (ltot (PL.take k) ≤ 1048576) := fun k => Nat.le_trans (ltot_pre (List.take_prefix k PL)) htot'.out
          rw [ht] at cI
          have htl : t.length ≤ 1048576 := by
            have h1 := (joinS_sizes (PL.take (i + 1))).2 (i + 1, t) (by rw [hJ0.out]; simp)
            have h2 := (hts (i + 1)).out
            simp only at h1
            omega
          obtain ⟨Wc, vb, hcv, hbc, hoc⟩ := conv_own wr (S t) (by rw [S_size]; omega)
          rw [S_l] at hoc
          have i2 : (i : Int) < (n : Int) := by omega
          have hlt' : Hid (i < n) := hlt
          have hbc' : Hid (Below wr.heap.size wr Wc) := hbc
          have hoc' : Hid (OwnG Wc wr.heap.size vb t) := hoc
          clear ht hnx hx htl hlt hle hng hbc hoc
          go_wp2_with fail
          obtain ⟨W2, rfl⟩ : ∃ W2, W2 = wr := ⟨_, rfl⟩
          go_loopw [10, 11] (fun bvv jv wz => ∃ (j : Nat) (tx : List UInt8), j ≤ n ∧ i < j ∧ jv = .int .i64 (j : Int) ∧ Hid (OwnG wz W2.heap.size bvv tx) ∧ Hid (Below W2.heap.size W2 wz) ∧ Hid (joinS (PL.take j) = joinS (PL.take i) ++ [(i + 1, tx)])) (fun _ jv _ => n - (intOf jv).toNat)
          case atStart => exact ⟨i + 1, t, hlt'.out, Nat.lt_succ_self _, by simp, hoc', hbc', hJ0⟩
          case round =>
            obtain ⟨j, tx, hjle, hij, rfl, hOb, hBs, hJj⟩ := hrel
            have j0 : (0 : Int) ≤ (j : Int) := Int.natCast_nonneg _
            have j1 : (j : Int) < 1048578 := by have := hlenP'.out; omega
            have hjn : Hid (j ≤ n ∧ i < j) := ⟨hjle, hij⟩
            obtain ⟨ab, nb, cb, rfl⟩ := ownG_slice hOb.out
            clear hcv hoc' hbc' hJ0 cI
            by_cases hjlt : j < n
            · have hjP : j < PL.length := by rw [hn'.out]; exact hjlt
              have hbw := hB.out.trans (hBs.out.mono hB.out.size)
              obtain ⟨g', hg', cJ⟩ := (hR'.out.below hbw) j hjP
              injection hg' with hg'
              injection hg' with hg' _ _
              subst hg'
              obtain ⟨u, hu⟩ : ∃ u, (PL[j]'hjP).2 = u := ⟨_, rfl⟩
              rw [hu] at cJ
              have j2 : (j : Int) < (n : Int) := by omega
              have hjlt' : Hid (j < n) := hjlt
              cases u with
              | nil =>
                have hex : Hid (∀ h : j < PL.length, goes (PL[j]'h).2 = false) := fun _ => by rw [hu]; rfl
                rw [show S [] = (⟨#[]⟩ : ByteArray) from rfl] at cJ
                clear hu hjP hbw hjle hij hjlt
                have hcv2 := ownG_conv hOb.out
                have hLs : OwnL wr W1.heap.size (.slice al nl cl) (joinS (PL.take i)) := owns_same hL.out (fun g hg => hBs.out.block g (World.ownsRow.lt (show W2.ownsRow _ _ _ _ _ _ from hL.out) g hg).2)
                have hz : W1.heap.size ≤ wr.heap.size := Nat.le_trans hB.out.size hBs.out.size
                have hBW : Hid (Below W1.heap.size W1 wr) := hB.out.trans (hBs.out.mono hB.out.size)
                clear hOb hBs
                go_wp2_with (at_builtin; refine push_line _ rfl _ _ rfl W1.heap.size _ (joinS (PL.take i)) (i + 1, tx) wr.heap.size rfl rfl (World.ownsRow.alloc hLs _) (heap_alloc_last wr _) (by simp; omega) hjl.out ?_; intro g2 cap2 w2 hL2 hg2 hb2)
                have hL3 : Hid (OwnL w2 W1.heap.size (.slice (some ⟨g2, 0, none⟩) ((joinS (PL.take i)).length + 1) cap2) (joinS (PL.take j))) := by
                  unfold Hid
                  rw [hJj.out]
                  exact hL2
                have hB3 : Hid (Below W1.heap.size W1 w2) := (hBW.out.alloc (by omega) _).trans hb2
                go_roundw
                case rel => exact ⟨j, _, _, _, hjn.out.1, rfl, rfl, hL3, hB3, hex⟩
                case measure => have := hjn.out; simp [intOf]; omega
              | cons y r =>
                have hT0 : 0 < (S (y :: r)).size := by rw [S_size]; simp
                have hTg := S_get y r hT0
                by_cases hy : y = 32
                · have hgo : goes (PL[j]'hjP).2 = true := by rw [hu, hy]; rfl
                  have hb : (((S (y :: r))[0]'hT0).toNat : Int) = 32 := by rw [hTg, hy]; rfl
                  have hex1 : ((S (y :: r)).extract 1 (S (y :: r)).size).data.toList = r := by rw [drop_l, S_l]; rfl
                  have hJn : Hid (joinS (PL.take (j + 1)) = joinS (PL.take i) ++ [(i + 1, tx ++ r)]) := by
                    unfold Hid
                    rw [take_next PL j hjP, joinS_on _ _ hgo, hJj.out, addLast_snoc, hu]
                    rfl
                  have hrl : tx.length + r.length ≤ 1048576 := by
                    have h1 := (joinS_sizes (PL.take (j + 1))).2 (i + 1, tx ++ r) (by rw [hJn.out]; simp)
                    have h2 := (hts (j + 1)).out
                    simp only [List.length_append] at h1
                    omega
                  obtain ⟨v2, w2, hr2, ho2, hb2⟩ := append_strG wr 51 W2.heap.size (.slice ab nb cb) tx ((S (y :: r)).extract 1 (S (y :: r)).size) hOb.out hBs.out.size (by rw [← size_l, hex1]; omega)
                  rw [hex1] at ho2
                  have ho2' : Hid (OwnG w2 W2.heap.size v2 (tx ++ r)) := ho2
                  have hb2' : Hid (Below W2.heap.size W2 w2) := hBs.out.trans hb2
                  obtain ⟨T, hT0', hb1, cJ', hr2'⟩ : ∃ (T : ByteArray) (h : 0 < T.size), (((T[0]'h).toNat : Int) = 32) ∧ wr.cell? ⟨g, j, none⟩ = some (.string T) ∧ (Builtin.append_ #[51, 9] 51 #[.slice ab nb cb, .string (T.extract 1 T.size)]).run Tryz.prog wr = .ok v2 w2 := ⟨S (y :: r), hT0, hb, cJ, hr2⟩
                  have hT1 : (1 : Int) ≤ (T.size : Int) := by omega
                  clear hu hjP hbw hjle hij hjlt hTg hT0 hb cJ hr2 hgo hex1 ho2 hb2 hrl hOb hBs hJj
                  go_wp2_with (at_builtin; refine Lib.wpList_append_run _ rfl _ _ _ _ rfl _ _ rfl rfl _ _ hr2' ?_)
                  go_roundw
                  case rel => exact ⟨j + 1, tx ++ r, hjlt'.out, Nat.lt_succ_of_lt hjn.out.2, by simp, ho2', hb2', hJn⟩
                  case measure => have := hjlt'.out; simp [intOf]; omega
                · have hb : ¬ (((S (y :: r))[0]'hT0).toNat : Int) = 32 := by
                    rw [hTg]
                    intro e
                    apply hy
                    apply UInt8.toNat_inj.1
                    show _ = 32
                    omega
                  have hex : Hid (∀ h : j < PL.length, goes (PL[j]'h).2 = false) := fun _ => by
                    rw [hu]
                    show (some y == some 32) = false
                    simpa using hy
                  obtain ⟨T, hT0', hb1, cJ'⟩ : ∃ (T : ByteArray) (h : 0 < T.size), (¬ ((T[0]'h).toNat : Int) = 32) ∧ wr.cell? ⟨g, j, none⟩ = some (.string T) := ⟨S (y :: r), hT0, hb, cJ⟩
                  have hb2 : (((T[0]'hT0').toNat : Int) == 32) = false := by simpa using hb1
                  clear hu hjP hbw hjle hij hjlt hTg hT0 hb cJ hb1
                  have hcv2 := ownG_conv hOb.out
                  have hLs : OwnL wr W1.heap.size (.slice al nl cl) (joinS (PL.take i)) := owns_same hL.out (fun g hg => hBs.out.block g (World.ownsRow.lt (show W2.ownsRow _ _ _ _ _ _ from hL.out) g hg).2)
                  have hz : W1.heap.size ≤ wr.heap.size := Nat.le_trans hB.out.size hBs.out.size
                  have hBW : Hid (Below W1.heap.size W1 wr) := hB.out.trans (hBs.out.mono hB.out.size)
                  clear hOb hBs
                  go_wp2_with (at_builtin; refine push_line _ rfl _ _ rfl W1.heap.size _ (joinS (PL.take i)) (i + 1, tx) wr.heap.size rfl rfl (World.ownsRow.alloc hLs _) (heap_alloc_last wr _) (by simp; omega) hjl.out ?_; intro g2 cap2 w2 hL2 hg2 hb2)
                  have hL3 : Hid (OwnL w2 W1.heap.size (.slice (some ⟨g2, 0, none⟩) ((joinS (PL.take i)).length + 1) cap2) (joinS (PL.take j))) := by
                    unfold Hid
                    rw [hJj.out]
                    exact hL2
                  have hB3 : Hid (Below W1.heap.size W1 w2) := (hBW.out.alloc (by omega) _).trans hb2
                  go_roundw
                  case rel => exact ⟨j, _, _, _, hjn.out.1, rfl, rfl, hL3, hB3, hex⟩
                  case measure => have := hjn.out; simp [intOf]; omega
            · have hje : n = j := by omega
              subst hje
              have hex : Hid (∀ h : n < PL.length, goes (PL[n]'h).2 = false) := fun h => by have := hn'.out; omega
              clear hjle hij hjlt
              have hcv2 := ownG_conv hOb.out
              have hLs : OwnL wr W1.heap.size (.slice al nl cl) (joinS (PL.take i)) := owns_same hL.out (fun g hg => hBs.out.block g (World.ownsRow.lt (show W2.ownsRow _ _ _ _ _ _ from hL.out) g hg).2)
              have hz : W1.heap.size ≤ wr.heap.size := Nat.le_trans hB.out.size hBs.out.size
              have hBW : Hid (Below W1.heap.size W1 wr) := hB.out.trans (hBs.out.mono hB.out.size)
              clear hOb hBs
              go_wp2_with (at_builtin; refine push_line _ rfl _ _ rfl W1.heap.size _ (joinS (PL.take i)) (i + 1, tx) wr.heap.size rfl rfl (World.ownsRow.alloc hLs _) (heap_alloc_last wr _) (by simp; omega) hjl.out ?_; intro g2 cap2 w2 hL2 hg2 hb2)
              have hL3 : Hid (OwnL w2 W1.heap.size (.slice (some ⟨g2, 0, none⟩) ((joinS (PL.take i)).length + 1) cap2) (joinS (PL.take n))) := by
                unfold Hid
                rw [hJj.out]
                exact hL2
              have hB3 : Hid (Below W1.heap.size W1 w2) := (hBW.out.alloc (by omega) _).trans hb2
              go_roundw
              case rel => exact ⟨n, _, _, _, hjn.out.1, rfl, rfl, hL3, hB3, hex⟩
              case measure => have := hjn.out; simp [intOf]; omega
        · have hie : n = i := by omega
          subst hie
          have hLf := hL.out
          rw [List.take_of_length_le (by rw [hn'.out]; exact Nat.le_refl _)] at hLf
          clear hlt hle hng hL
          go_wp2
          go_ret3
          refine ⟨_, 0, 0, rfl, ?_, hB1'.out.trans (hB.out.mono hB1'.out.size)⟩
          unfold UnfP
          rw [hok.out]
          refine ⟨?_, rfl, rfl⟩
          rcases hLf with ⟨h1, ⟨h2, h3⟩ | ⟨g, cap, cur, h2, h3, h4⟩⟩
          · exact ⟨h1, Or.inl ⟨h2, h3⟩⟩
          · exact ⟨h1, Or.inr ⟨g, cap, cur, h2, Nat.le_trans hB1'.out.size h3, h4⟩⟩
end Go.Proofs.YtoomoicjoockjaaGreatDoor
