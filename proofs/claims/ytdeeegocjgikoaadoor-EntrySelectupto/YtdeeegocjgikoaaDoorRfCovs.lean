import Derived.Test.YtdeeegocjgikoaaDoorRfSyn
import Derived.BigQuiet
namespace Go.Proofs.YtdeeegocjgikoaaDoor
open Go.RowKit
open TextMath (fold lo)
set_option linter.unusedVariables false

set_option maxHeartbeats 1000000 in
theorem inR_any (l : List (List UInt8)) (x : List UInt8) (a : Option Addr) (c : Nat) (w : World) (hl : l.length ≤ 4194304) (h : Row w a l) :
    Calls Tryd.prog 51 #[.string (S x), .slice a l.length c] w fun e w' => e = .returned (.bool (decide (x ∈ l))) ∧ w' = w := by
  have h' : Hid (Row w a l) := h
  clear h
  go_enter Tryd.func51, Tryd.ntmps51
  go_wp2_with fail
  go_loopw [5] (fun iv wr => ∃ i : Nat, i ≤ l.length ∧ iv = .int .i64 (i : Int) ∧ Hid (x ∉ l.take i) ∧ w = wr) (fun iv _ => l.length - (intOf iv).toNat)
  case atStart => exact ⟨0, Nat.zero_le _, rfl, by unfold Hid; simp, rfl⟩
  case round =>
    obtain ⟨i, hi, rfl, hno, rfl⟩ := hrel
    by_cases hlt : i < l.length
    · obtain ⟨b1, o1, rfl, c1⟩ := h'.out i hlt
      have i0 : (0 : Int) ≤ (i : Int) := Int.natCast_nonneg _
      have i1 : (i : Int) < (l.length : Int) := Int.ofNat_lt.2 hlt
      by_cases hx : l[i] = x
      · have hyes : Hid (x ∈ l) := by unfold Hid; rw [← hx]; exact List.getElem_mem hlt
        rw [hx] at c1
        clear hno hx
        generalize S x = X at *
        go_wp2_with fail
        go_ret
        exact ⟨by rw [decide_eq_true hyes.out]; rfl, rfl⟩
      · have hne := strNe hx
        have hno' : Hid (x ∉ l.take (i + 1)) := by
          unfold Hid
          rw [List.take_succ_eq_append_getElem hlt, List.mem_append, List.mem_singleton]
          rintro (q | q)
          · exact hno.out q
          · exact hx q.symm
        clear hno hx
        generalize S x = X at *
        generalize S l[i] = Y at *
        go_wp2_with fail
        go_roundw
        case rel => exact ⟨i + 1, hlt, by simp, hno', by trivial⟩
        case measure => simp [intOf]; omega
    · have hno' : Hid (¬ x ∈ l) := by
        have := hno.out
        rw [List.take_of_length_le (by omega)] at this
        exact this
      have i1 : ¬ (i : Int) < (l.length : Int) := by omega
      clear hno
      go_wp2_with fail
      go_ret
      exact ⟨by rw [decide_eq_false hno'.out]; rfl, rfl⟩
/-- Do all of a stand in b? -/
def subB (a b : List (List UInt8)) : Bool := a.all (fun z => decide (z ∈ b))
theorem mem_cut {b : List (List UInt8)} (hb : Up b) {j : Nat} {x : List UInt8} (hlo : ∀ z ∈ b.take j, z < x) (hm : x ∈ b) : x ∈ b.drop j := by
  rw [← List.take_append_drop j b, List.mem_append] at hm
  rcases hm with h | h
  · exact absurd (hlo x h) (lt_irreflL x)
  · exact h
theorem mem_head {b : List (List UInt8)} (hb : Up b) {j : Nat} (hj : j < b.length) {x : List UInt8} (hm : x ∈ b.drop j) (hn : ¬ b[j] < x) : b[j] = x := by
  rw [List.drop_eq_getElem_cons hj] at hm
  rcases List.mem_cons.1 hm with h | h
  · exact h.symm
  · exact absurd (up_head hb hj x h) hn
set_option maxRecDepth 100000 in
set_option maxHeartbeats 2000000 in
theorem withinR_any (a b : List (List UInt8)) (pa pb : Option Addr) (ca cb : Nat) (w : World) (ha : a.length ≤ 4194304) (hb : b.length ≤ 4194304) (hua : Up a) (hub : Up b) (hra : Row w pa a) (hrb : Row w pb b) :
    Calls Tryd.prog 52 #[.slice pa a.length ca, .slice pb b.length cb] w fun e w' => e = .returned (.bool (subB a b)) ∧ Below w.heap.size w w' := by
  have hU : Hid (Up a ∧ Up b) := ⟨hua, hub⟩
  have hR : Hid (Row w pa a ∧ Row w pb b) := ⟨hra, hrb⟩
  clear hua hub hra hrb
  go_enter Tryd.func52, Tryd.ntmps52
  go_wp2_with fail
  go_loopw [5, 6] (fun jv iv wr => ∃ (i j q : Nat), i ≤ a.length ∧ j ≤ b.length ∧ jv = .int .i64 (j : Int) ∧ iv = .int .i64 (i : Int) ∧ Hid (wr = w.drewN q) ∧ Hid ((∀ z ∈ a.take i, z ∈ b) ∧ ∀ z ∈ b.take j, ∀ y ∈ a.drop i, z < y)) (fun _ iv _ => a.length - (intOf iv).toNat)
  case atStart => exact ⟨0, 0, 0, Nat.zero_le _, Nat.zero_le _, rfl, rfl, rfl, by simp, by simp⟩
  case round =>
    obtain ⟨i, j, q, hi, hj, rfl, rfl, hw, hI⟩ := hrel
    by_cases hil : i < a.length
    · have i0 : (0 : Int) ≤ (i : Int) := Int.natCast_nonneg _
      have i1 : (i : Int) < (a.length : Int) := Int.ofNat_lt.2 hil
      obtain ⟨XL, hXL⟩ : ∃ x, a[i] = x := ⟨_, rfl⟩
      obtain ⟨X, hSX⟩ : ∃ X, S XL = X := ⟨_, rfl⟩
      have hXd : Hid (X.toList = XL) := by unfold Hid; rw [← hSX, toListS]
      have hcX : Hid (∀ n, ∃ b1 f1, pa = some ⟨b1, f1, none⟩ ∧ (w.drewN n).cell? ⟨b1, f1 + i, none⟩ = some (.string X)) := by
        intro n
        obtain ⟨b1, f1, e, h1⟩ := hR.out.1 i hil
        exact ⟨b1, f1, e, by rw [← hSX, ← hXL]; exact h1⟩
      have hnext : Hid (∀ z ∈ a.take (i + 1), z ∈ a.take i ∨ z = XL) := fun z hz => by
        rw [List.take_succ_eq_append_getElem hil, List.mem_append, List.mem_singleton, hXL] at hz
        exact hz
      have hgt : Hid (∀ y ∈ a.drop (i + 1), XL < y) := by
        have h := up_head hU.out.1 hil
        rw [hXL] at h
        exact h
      have hdr : Hid (∀ y, y ∈ a.drop i → y = XL ∨ y ∈ a.drop (i + 1)) := fun y hy => by
        rw [List.drop_eq_getElem_cons hil, hXL] at hy
        exact List.mem_cons.1 hy
      have hXi : Hid (XL ∈ a.drop i) := by unfold Hid; rw [List.drop_eq_getElem_cons hil, hXL]; exact List.mem_cons_self
      have hXm : Hid (XL ∈ a) := by unfold Hid; rw [← hXL]; exact List.getElem_mem hil
      have hil' : Hid (i < a.length) := hil
      clear hXL hSX
      go_wp2_with fail
      go_loopw [5] (fun jv ws => ∃ (j2 q2 : Nat), j2 ≤ b.length ∧ jv = .int .i64 (j2 : Int) ∧ Hid (ws = w.drewN q2) ∧ Hid (∀ z ∈ b.take j2, z < XL)) (fun jv _ => b.length - (intOf jv).toNat)
      case atStart =>
        refine ⟨j, q, hj, rfl, hw, fun z hz => ?_⟩
        exact hI.out.2 z hz XL hXi.out
      case round =>
        obtain ⟨j2, q2, hj2, rfl, hw2, hlo⟩ := hrel
        have j0 : (0 : Int) ≤ (j2 : Int) := Int.natCast_nonneg _
        obtain ⟨b1, f1, e1, x1⟩ := hcX.out q2
        rw [← hw2.out] at x1
        have hbad : XL ∉ b → Hid (subB a b = false) := fun hn => by
          unfold Hid subB
          rw [Bool.eq_false_iff]
          intro q
          exact hn (of_decide_eq_true (List.all_eq_true.1 q XL hXm.out))
        by_cases hjl : j2 < b.length
        · have j1 : (j2 : Int) < (b.length : Int) := Int.ofNat_lt.2 hjl
          have j3 : ((j2 : Int) == (b.length : Int)) = false := by rw [beq_eq_false_iff_ne]; omega
          obtain ⟨b2, f2, e2, x2⟩ := hR.out.2 j2 hjl
          obtain ⟨YL, hYL⟩ : ∃ x, b[j2] = x := ⟨_, rfl⟩
          rw [hYL] at x2
          obtain ⟨Y, hSY⟩ : ∃ Y, S YL = Y := ⟨_, rfl⟩
          rw [hSY] at x2
          have hYd : Y.toList = YL := by rw [← hSY, toListS]
          have x2' : wr.cell? ⟨b2, f2 + j2, none⟩ = some (.string Y) := by rw [hw2.out]; exact x2
          have hXd' := hXd.out
          by_cases hyx : YL < XL
          · have hls : Op.bytesLess Y.toList X.toList = true := by rw [hXd', hYd]; exact (less_iff _ _).2 hyx
            have hnx : Hid (∀ z ∈ b.take (j2 + 1), z < XL) := fun z hz => by
              rw [List.take_succ_eq_append_getElem hjl, List.mem_append, List.mem_singleton, hYL] at hz
              rcases hz with hz | hz
              · exact hlo.out z hz
              · rw [hz]; exact hyx
            have hjl' : Hid (j2 < b.length) := hjl
            subst e1 e2
            clear hbad hXd' hYd hSY hYL hyx hlo x2
            go_wp2_with fail
            go_quiet (fail)
            go_wp2_with fail
            go_roundw
            case rel => exact ⟨j2 + 1, _, hjl'.out, by simp, by unfold Hid; rw [hw2.out, World.drewN_drewN], hnx⟩
            case measure => have := hjl'.out; simp [intOf]; omega
          · have hls : Op.bytesLess Y.toList X.toList = false := by rw [hXd', hYd, Bool.eq_false_iff]; exact fun q => hyx ((less_iff _ _).1 q)
            by_cases he : YL = XL
            · have hne : (Y.toList == X.toList) = true := by rw [hXd', hYd, he]; simp
              have hfin : Hid ((∀ z ∈ a.take (i + 1), z ∈ b) ∧ ∀ z ∈ b.take j2, ∀ y ∈ a.drop (i + 1), z < y) := by
                refine ⟨fun z hz => ?_, fun z hz y hy => lt_transL (hlo.out z hz) (hgt.out y hy)⟩
                rcases hnext.out z hz with h | h
                · exact hI.out.1 z h
                · rw [h, ← he, ← hYL]; exact List.getElem_mem hjl
              have hjl' : Hid (j2 < b.length) := hjl
              subst e1 e2
              clear hbad hXd' hYd hSY hYL hyx hlo x2 he
              go_wp2_with fail
              go_quiet (fail)
              have x1d : (wr.drewN nq).cell? ⟨b1, f1 + i, none⟩ = some (.string X) := x1
              have x2d : (wr.drewN nq).cell? ⟨b2, f2 + j2, none⟩ = some (.string Y) := x2'
              have hwd : Hid (wr.drewN nq = w.drewN (q2 + nq)) := by unfold Hid; rw [hw2.out, World.drewN_drewN]
              generalize wr.drewN nq = wd at *
              clear x1 x2' hw2
              go_wp2_with fail
              go_quiet (fail)
              go_wp2_with fail
              go_roundw
              case rel => exact ⟨i + 1, j2, _, hil'.out, Nat.le_of_lt hjl'.out, rfl, by simp, by unfold Hid; rw [hwd.out, World.drewN_drewN], hfin⟩
              case measure => have := hil'.out; simp [intOf]; omega
            · have hne : (Y.toList == X.toList) = false := by rw [hXd', hYd]; simpa using he
              have hf := hbad (fun hm => he (by
                rw [← hYL]
                exact mem_head hU.out.2 hjl (mem_cut hU.out.2 hlo.out hm) (by rw [hYL]; exact hyx)))
              subst e1 e2
              clear hbad hXd' hYd hSY hYL hyx hlo x2 he
              go_wp2_with fail
              go_quiet (fail)
              have x1d : (wr.drewN nq).cell? ⟨b1, f1 + i, none⟩ = some (.string X) := x1
              have x2d : (wr.drewN nq).cell? ⟨b2, f2 + j2, none⟩ = some (.string Y) := x2'
              have hwd : Hid (wr.drewN nq = w.drewN (q2 + nq)) := by unfold Hid; rw [hw2.out, World.drewN_drewN]
              generalize wr.drewN nq = wd at *
              clear x1 x2' hw2
              go_wp2_with fail
              go_quiet (fail)
              have oB : Hid (Below w.heap.size w (wd.drewN nq)) := by unfold Hid; rw [hwd.out]; exact (drewN_belowS _ _ _).trans (drewN_belowS _ _ _)
              go_wp2_with fail
              go_ret
              exact ⟨by rw [hf.out]; rfl, oB.out⟩
        · have hje : j2 = b.length := by omega
          have j1 : ¬ (j2 : Int) < (b.length : Int) := by omega
          have j3 : ((j2 : Int) == (b.length : Int)) = true := by rw [beq_iff_eq]; omega
          have hf := hbad (fun hm => lt_irreflL XL (hlo.out XL (by rw [hje, List.take_length]; exact hm)))
          subst e1
          clear hbad hlo hje
          go_wp2_with fail
          go_quiet (fail)
          have hwd : Hid (wr.drewN nq = w.drewN (q2 + nq)) := by unfold Hid; rw [hw2.out, World.drewN_drewN]
          generalize wr.drewN nq = wd at *
          clear x1 hw2
          go_wp2_with fail
          go_quiet (fail)
          have oB : Hid (Below w.heap.size w (wd.drewN nq)) := by unfold Hid; rw [hwd.out]; exact (drewN_belowS _ _ _).trans (drewN_belowS _ _ _)
          go_wp2_with fail
          go_ret
          exact ⟨by rw [hf.out]; rfl, oB.out⟩
    · have hie : i = a.length := by omega
      have i1 : ¬ (i : Int) < (a.length : Int) := by omega
      have hf : Hid (subB a b = true) := by
        unfold Hid subB
        rw [List.all_eq_true]
        intro z hz
        refine decide_eq_true (hI.out.1 z ?_)
        rw [hie, List.take_length]
        exact hz
      have oB : Hid (Below w.heap.size w wr) := by unfold Hid; rw [hw.out]; exact drewN_belowS _ _ _
      clear hI hie
      go_wp2_with fail
      go_ret
      exact ⟨by rw [hf.out]; rfl, oB.out⟩
end Go.Proofs.YtdeeegocjgikoaaDoor

namespace Go.Proofs.YtdeeegocjgikoaaDoor
open Go.RowKit
open TextMath (fold lo)
set_option linter.unusedVariables false

theorem sub_holds {rx ry : List (List UInt8)} {D E : List (List UInt8)} (h1 : ∀ z, z ∈ rx ↔ z ∈ D) (h2 : ∀ z, z ∈ ry ↔ z ∈ E) : subB rx ry = holds E D := by
  unfold subB holds
  rw [Bool.eq_iff_iff, List.all_eq_true, List.all_eq_true]
  constructor
  · intro h z hz
    exact decide_eq_true ((h2 z).1 (of_decide_eq_true (h z ((h1 z).2 hz))))
  · intro h z hz
    exact decide_eq_true ((h2 z).2 (of_decide_eq_true (h z ((h1 z).1 hz))))
set_option maxRecDepth 100000 in
set_option maxHeartbeats 2000000 in
theorem coversR_any (d e fd fe : ByteArray) (hfd : S (fold d.data.toList) = fd) (hfe : S (fold e.data.toList) = fe) (w : World) (hd : d.size ≤ 4194300) (he : e.size ≤ 4194300) (hK : KndTab w) :
    Calls Tryd.prog 30 #[.string d, .string e] w fun r w' => r = .returned (.bool (covB fd fe)) ∧ Below w.heap.size w w' := by
  have hPd := parseR_any d fd hfd w hd
  have hPe : ∀ W, Hid (Calls Tryd.prog 49 #[.string e] W fun r w' => RParseIs w' e fe r ∧ Below W.heap.size W w') := fun W => parseR_any e fe hfe W he
  have hff : Hid (fold fe.data.toList = fe.data.toList ∧ fe.size ≤ 4194300) := ⟨by rw [← hfe, S_l]; exact TextMath.fold_fold _, by rw [← hfe, fold_size]; exact he⟩
  have hK' : Hid (KndTab w) := hK
  obtain ⟨ans, hans⟩ : ∃ ans, covB fd fe = ans := ⟨_, rfl⟩
  have hA : Hid (((desc fd).2.2 && (desc fe).2.2 && holds (desc fe).1 (desc fd).1 && decide ((canN (typD fd)).data.toList ∈ lin (typD fe))) = ans) := hans
  rw [hans]
  clear hans hK hd he hfd hfe
  go_enter Tryd.func30, Tryd.ntmps30
  go_wp2_with fail
  refine hPd.mono ?_
  rintro r W1 ⟨hI, hb1⟩
  have o1 : Hid (Below w.heap.size w W1) := hb1
  clear hPd hb1
  rcases hI with ⟨okd, ax, rx, cx, rfl, hrx, hux, hmx, hlx⟩ | ⟨okd, rfl⟩
  · obtain ⟨W2, hW2⟩ : ∃ W2, W1.alloc (.cells #[.string (canN (typD fd)), .slice ax rx.length cx] 49) = W2 := ⟨_, rfl⟩
    have hB2 : Below W1.heap.size W1 W2 := by rw [← hW2]; exact (Below.refl _ _).alloc (Nat.le_refl _) _
    have p2 : Hid (DescB W2 W1.heap.size (.string (canN (typD fd))) (.slice ax rx.length cx)) := by unfold Hid DescB; rw [← hW2]; exact heap_alloc_last W1 _
    have o2 : Hid (Below w.heap.size w W2) := o1.out.trans (hB2.mono o1.out.size)
    have hrx2 : Hid (Row W2 ax rx) := hrx.below hB2
    have hfx : Hid (Up rx ∧ (∀ z, z ∈ rx ↔ z ∈ (desc fd).1) ∧ rx.length ≤ 4194304) := ⟨hux, hmx, hlx⟩
    have okd' : Hid ((desc fd).2.2 = true) := okd
    have hPe2 := hPe W2
    clear hPe hrx hux hmx hlx hB2 okd
    go_wp2_with fail
    refine hPe2.out.mono ?_
    rintro r W3 ⟨hI, hb3⟩
    have o3 : Hid (Below w.heap.size w W3) := o2.out.trans (hb3.mono o2.out.size)
    have p3 : Hid (DescB W3 W1.heap.size (.string (canN (typD fd))) (.slice ax rx.length cx)) := p2.out.of_block (hb3.block _ p2.out.lt)
    have hrx3 : Hid (Row W3 ax rx) := hrx2.out.below hb3
    clear hPe2 hb3 hrx2 p2 o2 hW2
    rcases hI with ⟨oke, ay, ry, cy, rfl, hry, huy, hmy, hly⟩ | ⟨oke, rfl⟩
    · obtain ⟨c1, c2, c3⟩ := canF fe oke hff.out.1
      have hSu : ∀ W, Below w.heap.size w W → Hid (Calls Tryd.prog 50 #[.string (canN (typD fe))] W fun r w' => LinQ w' (lin (typD fe)) r ∧ Below W.heap.size W w') := fun W hb => by
        have h := supersR_any (canN (typD fe)) W (by have := can_sizeR fe; have := hff.out.2; omega) (hK'.out.below hb)
        rw [c1, S_of, c3] at h
        exact h
      obtain ⟨W4, hW4⟩ : ∃ W4, W3.alloc (.cells #[.string (canN (typD fe)), .slice ay ry.length cy] 49) = W4 := ⟨_, rfl⟩
      have hB4 : Below W3.heap.size W3 W4 := by rw [← hW4]; exact (Below.refl _ _).alloc (Nat.le_refl _) _
      have q4 : Hid (DescB W4 W3.heap.size (.string (canN (typD fe))) (.slice ay ry.length cy)) := by unfold Hid DescB; rw [← hW4]; exact heap_alloc_last W3 _
      have p4 : Hid (DescB W4 W1.heap.size (.string (canN (typD fd))) (.slice ax rx.length cx)) := p3.out.of_block (hB4.block _ p3.out.lt)
      have o4 : Hid (Below w.heap.size w W4) := o3.out.trans (hB4.mono o3.out.size)
      have hrx4 : Hid (Row W4 ax rx) := hrx3.out.below hB4
      have hry4 : Hid (Row W4 ay ry) := hry.below hB4
      have hS4 := hSu W4 o4.out
      have hsub : Hid (subB rx ry = holds (desc fe).1 (desc fd).1) := sub_holds hfx.out.2.1 hmy
      have hfy : Hid (Up ry ∧ ry.length ≤ 4194304) := ⟨huy, hly⟩
      have hA2 : Hid ((subB rx ry && decide ((canN (typD fd)).data.toList ∈ lin (typD fe))) = ans) := by
        unfold Hid
        rw [hsub.out, ← hA.out, okd'.out, oke]
        rfl
      obtain ⟨⟨r0, f0⟩, ⟨r1, f1⟩⟩ := q4.out.cells
      generalize canN (typD fd) = X at *
      generalize canN (typD fe) = Y at *
      have hll := lin_small (typD fe)
      generalize lin (typD fe) = ln at *
      clear hry huy hmy hly hB4 hSu oke hA hsub p3 o3 hrx3 c1 c2 c3
      go_wp2_with fail
      refine hS4.out.mono ?_
      rintro r W5 ⟨⟨sa, sc, rfl, hsr⟩, hb5⟩
      have o5 : Hid (Below w.heap.size w W5) := o4.out.trans (hb5.mono o4.out.size)
      have p5 : DescB W5 W1.heap.size (.string X) (.slice ax rx.length cx) := p4.out.of_block (hb5.block _ p4.out.lt)
      have q5 : DescB W5 W3.heap.size (.string Y) (.slice ay ry.length cy) := q4.out.of_block (hb5.block _ q4.out.lt)
      have hIn := inR_any ln X.data.toList sa sc W5 hll hsr
      rw [S_of] at hIn
      have hWi := withinR_any rx ry ax ay cx cy W5 hfx.out.2.2 hfy.out.2 hfx.out.1 hfy.out.1 (hrx4.out.below hb5) (hry4.out.below hb5)
      clear r0 f0 r1 f1
      obtain ⟨⟨r0, f0⟩, ⟨r1, f1⟩⟩ := p5.cells
      obtain ⟨⟨t0, y0⟩, ⟨t1, y1⟩⟩ := q5.cells
      obtain ⟨bi, hbi⟩ : ∃ x, decide (X.data.toList ∈ ln) = x := ⟨_, rfl⟩
      rw [hbi] at hIn hA2
      clear hS4 hsr hb5 p5 q5 p4 q4 hbi hW4
      cases bi with
      | false =>
        have hf : Hid (ans = false) := by unfold Hid; rw [← hA2.out, Bool.and_false]
        go_wp2_with fail
        refine hIn.mono ?_
        rintro r W6 ⟨rfl, hw6⟩
        subst hw6
        clear hIn hWi
        go_wp2_with fail
        go_ret
        exact ⟨by rw [hf.out]; rfl, o5.out⟩
      | true =>
        have hf : Hid (ans = subB rx ry) := by unfold Hid; rw [← hA2.out, Bool.and_true]
        generalize subB rx ry = sb at *
        go_wp2_with fail
        refine hIn.mono ?_
        rintro r W6 ⟨rfl, hw6⟩
        subst hw6
        clear hIn
        go_wp2_with fail
        refine hWi.mono ?_
        rintro r W7 ⟨rfl, hb7⟩
        have o7 : Hid (Below w.heap.size w W7) := o5.out.trans (hb7.mono o5.out.size)
        clear hWi hb7 r0 f0 r1 f1 t0 y0 t1 y1
        go_wp2_with fail
        go_ret
        exact ⟨by rw [hf.out]; rfl, o7.out⟩
    · have hf : Hid (ans = false) := by unfold Hid; rw [← hA.out, oke]; simp
      have hB4 : Below W3.heap.size W3 (W3.alloc (.cells #[.string ⟨#[]⟩, .slice none 0 0] 49)) := (Below.refl _ _).alloc (Nat.le_refl _) _
      have o4 : Hid (Below w.heap.size w (W3.alloc (.cells #[.string ⟨#[]⟩, .slice none 0 0] 49))) := o3.out.trans (hB4.mono o3.out.size)
      obtain ⟨r0, f0⟩ := row_cell (heap_alloc_last W3 (.cells #[.string ⟨#[]⟩, .slice none 0 0] 49)) (j := 0) (by simp)
      obtain ⟨r1, f1⟩ := row_cell (heap_alloc_last W3 (.cells #[.string ⟨#[]⟩, .slice none 0 0] 49)) (j := 1) (by simp)
      simp only [List.getElem_toArray, List.getElem_cons_zero, List.getElem_cons_succ] at r0 r1
      clear oke hB4 hA
      go_wp2_with fail
      go_ret
      exact ⟨by rw [hf.out]; rfl, o4.out⟩
  · have hf : Hid (ans = false) := by unfold Hid; rw [← hA.out, okd]; simp
    have hB2 : Below W1.heap.size W1 (W1.alloc (.cells #[.string ⟨#[]⟩, .slice none 0 0] 49)) := (Below.refl _ _).alloc (Nat.le_refl _) _
    have o2 : Hid (Below w.heap.size w (W1.alloc (.cells #[.string ⟨#[]⟩, .slice none 0 0] 49))) := o1.out.trans (hB2.mono o1.out.size)
    obtain ⟨r0, f0⟩ := row_cell (heap_alloc_last W1 (.cells #[.string ⟨#[]⟩, .slice none 0 0] 49)) (j := 0) (by simp)
    obtain ⟨r1, f1⟩ := row_cell (heap_alloc_last W1 (.cells #[.string ⟨#[]⟩, .slice none 0 0] 49)) (j := 1) (by simp)
    simp only [List.getElem_toArray, List.getElem_cons_zero, List.getElem_cons_succ] at r0 r1
    have hPe2 := hPe (W1.alloc (.cells #[.string ⟨#[]⟩, .slice none 0 0] 49))
    clear okd hB2 hA hPe
    go_wp2_with fail
    clear r0 r1 f0 f1
    refine hPe2.out.mono ?_
    rintro r W3 ⟨hI, hb3⟩
    have o3 : Hid (Below w.heap.size w W3) := o2.out.trans (hb3.mono o2.out.size)
    clear hPe2 hb3
    rcases hI with ⟨oke, ay, ry, cy, rfl, hry, huy, hmy, hly⟩ | ⟨oke, rfl⟩
    · have hB4 : Below W3.heap.size W3 (W3.alloc (.cells #[.string (canN (typD fe)), .slice ay ry.length cy] 49)) := (Below.refl _ _).alloc (Nat.le_refl _) _
      have o4 : Hid (Below w.heap.size w (W3.alloc (.cells #[.string (canN (typD fe)), .slice ay ry.length cy] 49))) := o3.out.trans (hB4.mono o3.out.size)
      clear hry huy hmy hly oke hB4
      go_wp2_with fail
      go_ret
      exact ⟨by rw [hf.out]; rfl, o4.out⟩
    · have hB4 : Below W3.heap.size W3 (W3.alloc (.cells #[.string ⟨#[]⟩, .slice none 0 0] 49)) := (Below.refl _ _).alloc (Nat.le_refl _) _
      have o4 : Hid (Below w.heap.size w (W3.alloc (.cells #[.string ⟨#[]⟩, .slice none 0 0] 49))) := o3.out.trans (hB4.mono o3.out.size)
      obtain ⟨r0, f0⟩ := row_cell (heap_alloc_last W3 (.cells #[.string ⟨#[]⟩, .slice none 0 0] 49)) (j := 0) (by simp)
      obtain ⟨r1, f1⟩ := row_cell (heap_alloc_last W3 (.cells #[.string ⟨#[]⟩, .slice none 0 0] 49)) (j := 1) (by simp)
      simp only [List.getElem_toArray, List.getElem_cons_zero, List.getElem_cons_succ] at r0 r1
      clear oke hB4
      go_wp2_with fail
      go_ret
      exact ⟨by rw [hf.out]; rfl, o4.out⟩
end Go.Proofs.YtdeeegocjgikoaaDoor
