import Derived.Test.YtoiilplnhecokaaDoorBlX
import Derived.Test.YtoiilplnhecokaaDoorKeO
import Derived.Test.YtoiilplnhecokaaDoorAtTabs
namespace Go.Proofs.YtoiilplnhecokaaDoor
namespace Bl
open Go.RowKit
open TextMath (fold lo normal check)
open Ke (utf cn tyOk tyC tyR OkI OkP OkD keyTx keys PR ErrsG Szs SdQ KeyQ sound_any copy_key key_any)
open Du (PRow DRow PX GRow GOwn sd sd_len pV xV pV_len xV_len CpQ copyDN_any)
set_option linter.unusedVariables false
set_option linter.unusedSimpArgs false
set_option maxRecDepth 100000

set_option maxHeartbeats 8000000 in
theorem dnBlind_walk (sa : Option Addr) (sc n : Nat) (L : List PX) (pa : Option Addr) (pn pc : Nat) (w : World) (hG : ErrsG w) (hT : NumT3 w) (hn : L.length = n) (hr : DRow w sa L) (hz : Szs L) (hz2 : ∀ r ∈ L, ∀ p ∈ r.2.2, p.1.length + p.2.length ≤ 1048576) (hh : NRw w pa pn) (hpn : pn ≤ 1073741824) :
    Calls Tryd.prog 3 #[.slice sa n sc, .slice pa pn pc] w fun e w' => e = .returned (.bool true) ∧ Below w.heap.size w w' := by
  have nb : (n : Int) ≤ 1073741824 := by have := hz.2.2; omega
  have hn' : Hid (L.length = n) := hn
  have hr' : Hid (DRow w sa L) := hr
  have hz' : Hid (Szs L ∧ ∀ r ∈ L, ∀ p ∈ r.2.2, p.1.length + p.2.length ≤ 1048576) := ⟨hz, hz2⟩
  have hG' : Hid (ErrsG w) := hG
  have hT' : Hid (NumT3 w) := hT
  have hh' : Hid (NRw w pa pn ∧ pn ≤ 1073741824) := ⟨hh, hpn⟩
  have c1 : Hid (Calls Tryd.prog 4 #[.slice sa n sc] w fun e w' => SdQ w (OkD (sd L)) e w') := sound_any sa sc n L w hn hr hz
  clear hn hr hz hz2 hG hT hh hpn
  go_enter Tryd.func3, Tryd.ntmps3
  go_wp2_with fail
  refine c1.out.mono ?_
  rintro e W1 ⟨⟨b1, rfl, h1⟩, hb1⟩
  have hB1 : Hid (Below w.heap.size w W1) := hb1
  have h1' : Hid (b1 = true ↔ OkD (sd L)) := h1
  have c3 : Hid (Calls Tryd.prog 6 #[.slice sa n sc] W1 fun e w' => ∃ a c, e = .returned (.slice a n c) ∧ Below W1.heap.size W1 w' ∧ Calls Tryd.prog 5 #[.slice a n c] w' fun e w'' => KeyQ w' (sd L) n e w'') := copy_key sa sc n L W1 hn'.out (hr'.out.below hb1) hz'.out.1 (hG'.out.below hb1)
  clear c1 hb1 h1
  go_wp2_with fail
  refine c3.out.mono ?_
  rintro e W3 ⟨a3, k3, rfl, hb3, c4⟩
  have hB3 : Hid (Below w.heap.size w W3) := hB1.out.trans (hb3.mono hB1.out.size)
  have c4' : Hid (Calls Tryd.prog 5 #[.slice a3 n k3] W3 fun e w'' => KeyQ W3 (sd L) n e w'') := c4
  clear c3 c4 hb3 hB1
  go_wp2_with fail
  refine c4'.out.mono ?_
  rintro e W4 ⟨hb4, hK4⟩
  have hB4 : Hid (Below w.heap.size w W4) := hB3.out.trans (hb4.mono hB3.out.size)
  cases b1 with
  | false =>
    obtain ⟨t, u, rfl⟩ : ∃ t u, e = .returned (.tuple #[.slice none 0 0, .iface t u]) := by
      rcases hK4 with ⟨hok, _⟩ | ⟨_, t, u, h⟩
      · have := h1'.out.2 hok; cases this
      · exact ⟨t, u, h⟩
    clear c4' hb4 hB3 hK4 h1'
    go_wp2_with fail
    go_ret
    exact ⟨rfl, hB4.out⟩
  | true =>
    have hD : Hid (OkD (sd L)) := h1'.out.1 rfl
    obtain ⟨ka, kc, rfl, ho⟩ : ∃ ka kc, e = .returned (.tuple #[.slice ka n kc, .nilIface]) ∧ OwnS W4 W3.heap.size (.slice ka n kc) (keys (sd L)) := by
      rcases hK4 with ⟨_, ka, kc, h, ho⟩ | ⟨hno, _⟩
      · exact ⟨ka, kc, h, ho⟩
      · exact (hno hD.out).elim
    have hrk : Hid (Row W4 ka (keys (sd L))) := (ownS_row ho).1
    have hNR : Hid (NRw W4 pa pn) := fun i hi => by
      obtain ⟨b, off, x, e, hc⟩ := hh'.out.1 i hi
      exact ⟨b, off, x, e, by rw [hB4.out.cell (World.block_lt_of_cell? _ _ hc)]; exact hc⟩
    obtain ⟨gp, hgp⟩ : ∃ gp, W4.heap.size = gp := ⟨_, rfl⟩
    obtain ⟨W5, hW5⟩ : ∃ W5, W4.alloc (.cells #[.slice pa pn pc, .int .i64 0] 34) = W5 := ⟨_, rfl⟩
    have hb5 : Below W4.heap.size W4 W5 := by rw [← hW5]; exact (Below.refl _ _).alloc (Nat.le_refl _) _
    have hx5 : W5.heap[gp]? = some (.cells #[.slice pa pn pc, .int .i64 ((0 : Nat) : Int)] 34 (0, 0)) := by rw [← hW5, ← hgp]; exact heap_alloc_last W4 _
    have hs5 : W5.heap.size = gp + 1 := by rw [← hW5, ← hgp]; simp
    have hB5 : Hid (Below W4.heap.size W4 W5 ∧ W5.heap[gp]? = some (.cells #[.slice pa pn pc, .int .i64 ((0 : Nat) : Int)] 34 (0, 0)) ∧ W5.heap.size = gp + 1 ∧ W4.heap.size = gp) := ⟨hb5, hx5, hs5, hgp⟩
    have c6 : Hid (Calls Tryd.prog 6 #[.slice sa n sc] W5 fun e w' => ∃ a c Os, e = .returned (.slice a n c) ∧ CpQ W5 L n a c Os w') := copyDN_any sa sc L n W5 hn'.out ((hr'.out.below hB4.out).below hb5) (fun r hr => by have := hz'.out.1.2.1 r hr; omega) (by omega)
    clear c4' hb4 hB3 hK4 h1' ho hb5 hx5 hs5
    go_upto_region 8 with fail
    clear hgp hW5
    go_wp2_with fail
    refine c6.out.mono ?_
    rintro e W6 ⟨ea, ec, Os, rfl, hC⟩
    obtain ⟨ge, rfl, hSt⟩ := st_of hC
    obtain ⟨hOr, hOs, hOl, hb6⟩ := Ke.cp_row hC hn'.out
    have hI6 : Hid (RS W4 gp pa pn pc 0 ge Os W6 ∧ Inv L Os 0 0 0) := by
      refine ⟨⟨hNR.out, hB5.out.1.trans (hb6.mono hB5.out.1.size), by rw [hB5.out.2.2.2]; exact Nat.le_refl _, ?_, ?_⟩, Inv.start (by rw [hOl, hn'.out]) hOs hz'.out.2⟩
      · rw [hb6.block gp (by rw [hB5.out.2.2.1]; omega)]
        exact hB5.out.2.1
      · rw [hB5.out.2.2.1] at hSt
        exact hSt
    clear c6 hC hSt hOr hOs hOl hb6 hNR
    go_wp2_with fail
    go_loopw [10] (fun iv wr => ∃ (i I : Nat) (Ls : List PX), i ≤ n ∧ iv = .int .i64 (i : Int) ∧ Hid (RS W4 gp pa pn pc I ge Ls wr ∧ Inv L Ls i 0 I)) (fun iv _ => n - (intOf iv).toNat)
    case atStart => exact ⟨0, 0, Os, Nat.zero_le _, rfl, hI6⟩
    case round =>
      obtain ⟨i, I, Ls, hi, rfl, hR⟩ := hrel
      clear hI6
      have i0 : (0 : Int) ≤ (i : Int) := Int.natCast_nonneg _
      by_cases hlt : i < n
      · have i1 : (i : Int) < (n : Int) := Int.ofNat_lt.2 hlt
        have hiL0 : i < Ls.length := by rw [hR.out.2.1, hn'.out]; exact hlt
        obtain ⟨g, hgg, hRP, hset⟩ := RP.start hR.out.1 i hiL0
        have hok0 : OkP Ls[i].2.2 := (hR.out.2.2.1 i hiL0 (by rw [hn'.out]; exact hlt)).ok (hD.out.2 _ (List.mem_map.2 ⟨_, List.getElem_mem (by rw [hn'.out]; exact hlt), rfl⟩))
        obtain ⟨m, hm0⟩ : ∃ m, Ls[i].2.2.length = m := ⟨_, rfl⟩
        have hm8 : m ≤ 8 := by rw [← hm0]; exact hok0.2.1
        have hi64 : Hid (i < 64) := by have := hD.out.1; rw [sd_len, hn'.out] at this; unfold Hid; omega
        obtain ⟨cap, hcap⟩ : ∃ cap, Ls[i].2.1 = cap := ⟨_, rfl⟩
        have hst : Hid (∃ ps : List PR, ps.length = m ∧ RP W4 gp pa pn pc I ge Ls i g cap ps wr ∧ Inv L (Ls.set i (some ⟨g, 0, none⟩, cap, ps)) i 0 I) := ⟨Ls[i].2.2, hm0, by rw [← hcap]; exact hRP, by rw [← hcap, hset]; exact hR.out.2⟩
        have hiL : Hid (i < Ls.length) := hiL0
        have hlt' : Hid (i < n) := hlt
        obtain ⟨ps0, hps0, hRP0, hIv0⟩ := hst.out
        have h00 : Hid (RP W4 gp pa pn pc I ge Ls i g cap ps0 wr ∧ Inv L (Ls.set i (some ⟨g, 0, none⟩, cap, ps0)) i 0 I ∧ ps0.length = m) := ⟨hRP0, hIv0, hps0⟩
        clear hR hRP hok0 hm0 hset hcap hst hps0 hRP0 hIv0 hlt hi hgg hiL0
        go_wp2_with fail
        go_loopw [11] (fun jv wr => ∃ (j I : Nat) (ps : List PR), j ≤ m ∧ jv = .int .i64 (j : Int) ∧ Hid (RP W4 gp pa pn pc I ge Ls i g cap ps wr ∧ Inv L (Ls.set i (some ⟨g, 0, none⟩, cap, ps)) i j I ∧ ps.length = m)) (fun jv _ => m - (intOf jv).toNat)
        case atStart => exact ⟨0, I, ps0, Nat.zero_le _, rfl, h00⟩
        case round =>
          obtain ⟨j, I, ps, hj, rfl, hQ⟩ := hrel
          clear h00
          have j0 : (0 : Int) ≤ (j : Int) := Int.natCast_nonneg _
          have hm : Hid (ps.length = m) := hQ.out.2.2
          obtain ⟨cI, hcs⟩ := hQ.out.1.cells hiL.out
          rw [hm.out] at cI
          by_cases hjm : j < m
          · have j1 : (j : Int) < (m : Int) := Int.ofNat_lt.2 hjm
            have hjb : (j : Int) < 8 := by omega
            have hjP : Hid (j < ps.length) := by unfold Hid; rw [hm.out]; exact hjm
            have hiS : Hid (i < (Ls.set i ((some ⟨g, 0, none⟩, cap, ps) : PX)).length) := by unfold Hid; rw [List.length_set]; exact hiL.out
            have hokP : Hid (OkP ps) := by
              have h1 := hQ.out.2.1.2.1 i hiS.out (by rw [hn'.out]; exact hlt'.out)
              simp only [List.getElem_set_self] at h1
              exact h1.ok (hD.out.2 _ (List.mem_map.2 ⟨_, List.getElem_mem (by rw [hn'.out]; exact hlt'.out), rfl⟩))
            obtain ⟨⟨t, v⟩, htv0⟩ : ∃ q, ps[j]'hjP.out = q := ⟨_, rfl⟩
            have htv : Hid ((ps[j]'hjP.out).1 = t ∧ (ps[j]'hjP.out).2 = v) := by unfold Hid; rw [htv0]; exact ⟨rfl, rfl⟩
            have hkq : Hid ((ps[j]'hjP.out) = (t, v)) := htv0
            have hsz : Hid (t.length + v.length ≤ 1048576) := by
              have h1 := hQ.out.2.1.2.2.1 i hiS.out j (by simp only [List.getElem_set_self]; exact hjP.out)
              simp only [List.getElem_set_self, htv0] at h1
              unfold bnd at h1
              rw [if_neg (by omega)] at h1
              exact h1
            have hty : Hid (tyOk t = true) := by
              obtain ⟨_, h1, _, _⟩ := hokP.out.2.2 j hjP.out
              rw [htv0] at h1
              exact h1
            have huv : Hid (utf v = true) := by
              obtain ⟨_, _, _, h1⟩ := hokP.out.2.2 j hjP.out
              rw [htv0] at h1
              exact h1
            have hIb : Hid (I ≤ 8192) := by have := hQ.out.2.1.2.2.2; have := hi64.out; unfold Hid; omega
            have hIv : Hid (Inv L (Ls.set i (some ⟨g, 0, none⟩, cap, ps)) i j I) := hQ.out.2.1
            have hNx : Hid (∀ (I' : Nat) (ps' : List PR) (W : World) (mm : Int), RP W4 gp pa pn pc I' ge Ls i g cap ps' W → 0 < mm → mm ≤ 1048576 → I' ≤ 1048576 → Calls Tryd.prog 7 #[.pointer (some ⟨gp, 0, none⟩), .int .i64 mm] W fun e w' => NxR W4 gp pa pn pc I' ge Ls i g cap ps' mm e w') := fun I' ps' W mm h1 h2 h3 h4 => next_rp h1 mm h2 h3 h4 hh'.out.2
            have hRPw : Hid (RP W4 gp pa pn pc I ge Ls i g cap ps wr) := hQ.out.1
            have hjm' : Hid (j < m) := hjm
            have z0 : 0 + j * 2 = j * 2 := Nat.zero_add _
            have z1 : 0 + j * 2 + 1 = j * 2 + 1 := by omega
            clear hQ hcs htv0 hjm hj
            go_wp2_with fail
            refine (hNx.out I ps wr 1024 hRPw.out (by decide) (by decide) (by have := hIb.out; omega)).mono ?_
            rintro e W1a ⟨k1, I1, rfl, hk1, hI1, hP1⟩
            have hk1' : Hid ((k1 : Int) < 1024 ∧ I1 ≤ I + 1) := ⟨hk1, hI1⟩
            have hPd : Hid (RP W4 gp pa pn pc I1 ge Ls i g cap ps W1a.drew) := hP1.below (Du.drewN_below W1a _ 1)
            have hBd : Hid (Below w.heap.size w W1a.drew) := hB4.out.trans (hPd.out.2.1.mono hB4.out.size)
            have hOn : Hid (∀ X, Below W1a.drew.heap.size W1a.drew X → Calls Tryd.prog 8 #[.string (S t), .int .i64 (k1 : Int)] X fun e w' => OnQ t e ∧ Below X.heap.size X w') := fun X hX => otherName_any t k1 X hty.out (by have := hsz.out; omega) (by have := hk1'.out.1; omega) ((hT'.out.below hBd.out).below hX)
            have cd : W1a.drew.cell? ⟨ge, i, none⟩ = some (.slice (some ⟨g, 0, none⟩) m cap) ∧ W1a.drew.cell? ⟨g, j * 2, none⟩ = some (.string (S t)) := by
              obtain ⟨q1, q2⟩ := hPd.out.cells hiL.out
              obtain ⟨q3, q4, q5, q6⟩ := q2 j hjP.out
              rw [hm.out] at q1
              rw [htv.out.1] at q3
              exact ⟨q1, q3⟩
            clear hk1 hI1 hP1 cI
            go_upto_region 16 with fail
            · skip
              refine Du.regionP (fun i => i == 3 || i == 8 || i == 10 || i == 11 || i == 12 || i == 14) (fun w' => w'.cell? ⟨ge, i, none⟩ = some (.slice (some ⟨g, 0, none⟩) m cap) ∧ w'.cell? ⟨g, j * 2, none⟩ = some (.string (S t))) (by kernel_rfl) ?_
              refine RgN.n_takeW 0 ?vab1 (by simp only [List.getElem?_toArray, List.getElem?_cons_zero]; exact rfl) (by kernel_rfl) (by kernel_rfl) (by kernel_rfl) rfl (by rfl) ?yab1 ?rab1
              case yab1 =>
                intro w'
                go_simp
                try with_reducible rfl
              case rab1 =>
              simp only [Act.put, List.setIfInBounds_toArray, List.set_cons_zero, List.set_cons_succ]
              refine RgN.n_takeW 1 ?vab2 (by simp only [List.getElem?_toArray, List.getElem?_cons_zero, List.getElem?_cons_succ]; exact rfl) (by kernel_rfl) (by kernel_rfl) (by kernel_rfl) rfl (by rfl) ?yab2 ?rab2
              case yab2 =>
                intro w'
                go_simp
                try with_reducible rfl
              case rab2 =>
              simp only [Act.put, List.setIfInBounds_toArray, List.set_cons_zero, List.set_cons_succ]
              refine RgN.n_takeW 4 ?vab3 (by simp only [List.getElem?_toArray, List.getElem?_cons_zero, List.getElem?_cons_succ]; exact rfl) (by kernel_rfl) (by kernel_rfl) (by kernel_rfl) rfl (by rfl) ?yab3 ?rab3
              case yab3 =>
                intro w'
                go_simp
                try with_reducible rfl
              case rab3 =>
              simp only [Act.put, List.setIfInBounds_toArray, List.set_cons_zero, List.set_cons_succ]
              refine RgN.n_takeW 5 ?vab4 (by simp only [List.getElem?_toArray, List.getElem?_cons_zero, List.getElem?_cons_succ]; exact rfl) (by kernel_rfl) (by kernel_rfl) (by kernel_rfl) rfl (by rfl) ?yab4 ?rab4
              case yab4 =>
                intro w'
                go_simp
                try with_reducible rfl
              case rab4 =>
              simp only [Act.put, List.setIfInBounds_toArray, List.set_cons_zero, List.set_cons_succ]
              refine RgN.n_takeW 6 ?vab5 (by simp only [List.getElem?_toArray, List.getElem?_cons_zero, List.getElem?_cons_succ]; exact rfl) (by kernel_rfl) (by kernel_rfl) (by kernel_rfl) rfl (by rfl) ?yab5 ?rab5
              case yab5 =>
                intro w'
                go_simp
                try with_reducible rfl
              case rab5 =>
              simp only [Act.put, List.setIfInBounds_toArray, List.set_cons_zero, List.set_cons_succ]
              refine RgN.n_takeW 9 ?vab6 (by simp only [List.getElem?_toArray, List.getElem?_cons_zero, List.getElem?_cons_succ]; exact rfl) (by kernel_rfl) (by kernel_rfl) (by kernel_rfl) rfl (by rfl) ?yab6 ?rab6
              case yab6 =>
                intro w'
                go_simp
                try with_reducible rfl
              case rab6 =>
              simp only [Act.put, List.setIfInBounds_toArray, List.set_cons_zero, List.set_cons_succ]
              refine RgN.n_takeW 13 ?vab7 (by simp only [List.getElem?_toArray, List.getElem?_cons_zero, List.getElem?_cons_succ]; exact rfl) (by kernel_rfl) (by kernel_rfl) (by kernel_rfl) rfl (by rfl) ?yab7 ?rab7
              case yab7 =>
                intro w'
                go_simp
                try with_reducible rfl
              case rab7 =>
              simp only [Act.put, List.setIfInBounds_toArray, List.set_cons_zero, List.set_cons_succ]
              refine RgN.n_takeW 2 ?vab8 (by simp only [List.getElem?_toArray, List.getElem?_cons_zero, List.getElem?_cons_succ]; exact rfl) (by kernel_rfl) (by kernel_rfl) (by kernel_rfl) rfl (by rfl) ?yab8 ?rab8
              case yab8 =>
                intro w'
                go_simp
                try with_reducible rfl
              case rab8 =>
              simp only [Act.put, List.setIfInBounds_toArray, List.set_cons_zero, List.set_cons_succ]
              refine RgN.n_takeW 7 ?vab9 (by simp only [List.getElem?_toArray, List.getElem?_cons_zero, List.getElem?_cons_succ]; exact rfl) (by kernel_rfl) (by kernel_rfl) (by kernel_rfl) rfl (by rfl) ?yab9 ?rab9
              case yab9 =>
                intro w'
                go_simp
                try with_reducible rfl
              case rab9 =>
              simp only [Act.put, List.setIfInBounds_toArray, List.set_cons_zero, List.set_cons_succ]
              refine RgN.n_take 3 ?vab10 (by simp only [List.getElem?_toArray, List.getElem?_cons_zero, List.getElem?_cons_succ]; exact rfl) (by kernel_rfl) (by kernel_rfl) (by kernel_rfl) (by kernel_rfl) (by rfl) cd ?yab10 ?rab10
              case yab10 =>
                intro w' hS
                obtain ⟨h0, h1⟩ := hS
                go_simp
                try with_reducible rfl
              case rab10 =>
              simp only [Act.put, List.setIfInBounds_toArray, List.set_cons_zero, List.set_cons_succ]
              refine RgN.n_take 8 ?vab11 (by simp only [List.getElem?_toArray, List.getElem?_cons_zero, List.getElem?_cons_succ]; exact rfl) (by kernel_rfl) (by kernel_rfl) (by kernel_rfl) (by kernel_rfl) (by rfl) cd ?yab11 ?rab11
              case yab11 =>
                intro w' hS
                obtain ⟨h0, h1⟩ := hS
                go_simp
                try with_reducible rfl
              case rab11 =>
              simp only [Act.put, List.setIfInBounds_toArray, List.set_cons_zero, List.set_cons_succ]
              refine RgN.n_take 10 ?vab12 (by simp only [List.getElem?_toArray, List.getElem?_cons_zero, List.getElem?_cons_succ]; exact rfl) (by kernel_rfl) (by kernel_rfl) (by kernel_rfl) (by kernel_rfl) (by rfl) cd ?yab12 ?rab12
              case yab12 =>
                intro w' hS
                obtain ⟨h0, h1⟩ := hS
                go_simp
                try with_reducible rfl
              case rab12 =>
              simp only [Act.put, List.setIfInBounds_toArray, List.set_cons_zero, List.set_cons_succ]
              refine RgN.n_take 11 ?vab13 (by simp only [List.getElem?_toArray, List.getElem?_cons_zero, List.getElem?_cons_succ]; exact rfl) (by kernel_rfl) (by kernel_rfl) (by kernel_rfl) (by kernel_rfl) (by rfl) cd ?yab13 ?rab13
              case yab13 =>
                intro w' hS
                obtain ⟨h0, h1⟩ := hS
                go_simp
                try with_reducible rfl
              case rab13 =>
              simp only [Act.put, List.setIfInBounds_toArray, List.set_cons_zero, List.set_cons_succ]
              refine RgN.n_take 12 ?vab14 (by simp only [List.getElem?_toArray, List.getElem?_cons_zero, List.getElem?_cons_succ]; exact rfl) (by kernel_rfl) (by kernel_rfl) (by kernel_rfl) (by kernel_rfl) (by rfl) cd ?yab14 ?rab14
              case yab14 =>
                intro w' hS
                obtain ⟨h0, h1⟩ := hS
                go_simp
                try with_reducible rfl
              case rab14 =>
              simp only [Act.put, List.setIfInBounds_toArray, List.set_cons_zero, List.set_cons_succ]
              refine RgN.n_one 14 (by kernel_rfl) (by simp only [List.getElem?_toArray, List.getElem?_cons_zero, List.getElem?_cons_succ]; exact rfl) (fun K hK => ?_)
              go_simp
              refine (hOn.out _ (Below.refl _ _)).mono ?_
              rintro e W2 ⟨hq2, hb2⟩
              obtain ⟨t', rfl, ht1, ht2, ht3⟩ := hq2
              have hP2 : Hid (RP W4 gp pa pn pc I1 ge Ls i g cap ps W2) := hPd.out.below hb2
              have hTq : Hid ((tyR t').1 = (tyR t).1 ∧ (tyR t').2.1 = (tyR t).2.1 ∧ t'.length ≤ t.length + 64) := ⟨ht1, ht2, ht3⟩
              have cd2 : W2.cell? ⟨ge, i, none⟩ = some (.slice (some ⟨g, 0, none⟩) m cap) ∧ W2.cell? ⟨g, j * 2, none⟩ = some (.string (S t)) := by
                obtain ⟨q1, q2⟩ := hP2.out.cells hiL.out
                obtain ⟨q3, q4, q5, q6⟩ := q2 j hjP.out
                rw [hm.out] at q1
                rw [htv.out.1] at q3
                exact ⟨q1, q3⟩
              have hf2 : W2.frozen? ⟨g, j * 2, none⟩ = false := ((hP2.out.cells hiL.out).2 j hjP.out).2.2.1
              have hP3 : Hid (RP W4 gp pa pn pc I1 ge Ls i g cap (ps.set j (t', v)) (W2.setCell ⟨g, j * 2, none⟩ (.string (S t')))) := by
                have := hP2.out.put1 hiL.out j hjP.out t'
                rw [htv.out.2] at this
                exact this
              clear ht1 ht2 ht3 hb2
              go_simp
              refine hK.out _ _ (fun _ => cd2) ?_
              clear hK K
              try simp only [Act.put, List.setIfInBounds_toArray, List.set_cons_zero, List.set_cons_succ]
              refine RgN.n_one 15 (by kernel_rfl) (by simp only [List.getElem?_toArray, List.getElem?_cons_zero, List.getElem?_cons_succ]; exact rfl) (fun K hK => ?_)
              go_simp
              refine hK.out _ _ (fun h => by cases h) ?_
              clear hK K
              try simp only [Act.put, List.setIfInBounds_toArray, List.set_cons_zero, List.set_cons_succ]
              refine RgN.n_one 16 (by kernel_rfl) (by simp only [List.getElem?_toArray, List.getElem?_cons_zero, List.getElem?_cons_succ]; exact rfl) (fun K hK => ?_)
              go_simp
              refine hK.out _ _ (fun h => by cases h) ?_
              clear hK K
              try simp only [Act.put, List.setIfInBounds_toArray, List.set_cons_zero, List.set_cons_succ]
              refine RgN.n_one 17 (by kernel_rfl) (by simp only [List.getElem?_toArray, List.getElem?_cons_zero, List.getElem?_cons_succ]; exact rfl) (fun K hK => ?_)
              go_simp
              refine hK.out _ _ (fun h => by cases h) ?_
              clear hK K
              try simp only [Act.put, List.setIfInBounds_toArray, List.set_cons_zero, List.set_cons_succ]
              refine RgN.n_done (by kernel_rfl) ?_ _
              obtain ⟨W3', hW3⟩ : ∃ X, W2.setCell ⟨g, j * 2, none⟩ (.string (S t')) = X := ⟨_, rfl⟩
              rw [hW3] at hP3 ⊢
              clear cd cd2 hf2 hP2 hW3 hOn hBd hPd hRPw
              have hl1 : Hid ((ps.set j (t', v)).length = m) := by unfold Hid; rw [List.length_set]; exact hm.out
              go_upto_region 17 with fail
              go_wp2_with fail
              refine (hNx.out I1 _ W3' 32 hP3.out (by decide) (by decide) (by have := hIb.out; have := hk1'.out.2; omega)).mono ?_
              rintro e W4a ⟨k2, I2, rfl, hk2, hI2, hP4⟩
              have hk2' : Hid (I2 ≤ I + 2) := by have := hk1'.out.2; unfold Hid; omega
              have hP4' : Hid (RP W4 gp pa pn pc I2 ge Ls i g cap (ps.set j (t', v)) W4a) := hP4
              have hco : W4a.cell? ⟨ge, i, none⟩ = some (.slice (some ⟨g, 0, none⟩) m cap) ∧ W4a.cell? ⟨g, j * 2 + 1, none⟩ = some (.string (S v)) := by
                obtain ⟨q1, q2⟩ := hP4.cells hiL.out
                obtain ⟨q3, q4, q5, q6⟩ := q2 j (by rw [List.length_set]; exact hjP.out)
                rw [hl1.out] at q1
                simp only [List.getElem_set_self] at q4
                exact ⟨q1, q4⟩
              obtain ⟨cI4, cV4⟩ := hco
              have hsv : (S v).size = v.length := by rw [← size_l, S_l]
              have hOc : Hid (Calls Tryd.prog 9 #[.string (S v), .int .i64 (k2 : Int)] W4a fun e w' => OcQ (S v) e ∧ Below W4a.heap.size W4a w') := otherCase_any (S v) k2 W4a (by have := hsz.out; omega)
              clear hk2 hI2 hP4 hsv hP3
              go_wp2_with fail
              refine hOc.out.mono ?_
              rintro e W5a ⟨⟨v1, rfl, hv1, hv1l⟩, hb5⟩
              have hV1 : Hid (fold v1 = fold v ∧ v1.length = v.length) := by
                have hsv : (S v).size = v.length := by rw [← size_l, S_l]
                rw [S_l] at hv1
                exact ⟨hv1, by rw [hv1l, hsv]⟩
              have hP5 : Hid (RP W4 gp pa pn pc I2 ge Ls i g cap (ps.set j (t', v)) W5a) := hP4'.out.below hb5
              clear hv1 hv1l hb5 hOc hP4' cI4 cV4
              go_wp2_with fail
              refine (hNx.out I2 _ W5a 8 hP5.out (by decide) (by decide) (by have := hIb.out; have := hk2'.out; omega)).mono ?_
              rintro e W6a ⟨k3, I6, rfl, hk3, hI6, hP6⟩
              have hk3' : Hid (I6 ≤ I + 3) := by have := hk2'.out; unfold Hid; omega
              have hPe : Hid (RP W4 gp pa pn pc I6 ge Ls i g cap (ps.set j (t', v)) W6a.drew) := hP6.below (Du.drewN_below W6a _ 1)
              have ce : W6a.drew.cell? ⟨ge, i, none⟩ = some (.slice (some ⟨g, 0, none⟩) m cap) := by
                obtain ⟨q1, q2⟩ := hPe.out.cells hiL.out
                rw [hl1.out] at q1
                exact q1
              have hv1z : (S v1).size ≤ 1073741824 := by
                have hsv : (S v1).size = v1.length := by rw [← size_l, S_l]
                have := hsz.out
                have := hV1.out.2
                omega
              have hBk : Hid (∀ X, Calls Tryd.prog 10 #[.string (S v1), .int .i64 (k3 : Int)] X fun e w' => BkQ (S v1) e ∧ Below X.heap.size X w') := fun X => blanks_any (S v1) k3 X hv1z
              clear hv1z
              clear hk3 hI6 hP6 hP5 hk2' hk1'
              go_upto_region 20 with fail
              refine Du.regionP (fun i => i == 3 || i == 7) (fun w' => w'.cell? ⟨ge, i, none⟩ = some (.slice (some ⟨g, 0, none⟩) m cap)) (by kernel_rfl) ?_
              refine RgN.n_takeW 0 ?vac1 (by simp only [List.getElem?_toArray, List.getElem?_cons_zero]; exact rfl) (by kernel_rfl) (by kernel_rfl) (by kernel_rfl) rfl (by rfl) ?yac1 ?rac1
              case yac1 =>
                intro w'
                go_simp
                try with_reducible rfl
              case rac1 =>
              simp only [Act.put, List.setIfInBounds_toArray, List.set_cons_zero, List.set_cons_succ]
              refine RgN.n_takeW 1 ?vac2 (by simp only [List.getElem?_toArray, List.getElem?_cons_zero, List.getElem?_cons_succ]; exact rfl) (by kernel_rfl) (by kernel_rfl) (by kernel_rfl) rfl (by rfl) ?yac2 ?rac2
              case yac2 =>
                intro w'
                go_simp
                try with_reducible rfl
              case rac2 =>
              simp only [Act.put, List.setIfInBounds_toArray, List.set_cons_zero, List.set_cons_succ]
              refine RgN.n_takeW 4 ?vac3 (by simp only [List.getElem?_toArray, List.getElem?_cons_zero, List.getElem?_cons_succ]; exact rfl) (by kernel_rfl) (by kernel_rfl) (by kernel_rfl) rfl (by rfl) ?yac3 ?rac3
              case yac3 =>
                intro w'
                go_simp
                try with_reducible rfl
              case rac3 =>
              simp only [Act.put, List.setIfInBounds_toArray, List.set_cons_zero, List.set_cons_succ]
              refine RgN.n_takeW 5 ?vac4 (by simp only [List.getElem?_toArray, List.getElem?_cons_zero, List.getElem?_cons_succ]; exact rfl) (by kernel_rfl) (by kernel_rfl) (by kernel_rfl) rfl (by rfl) ?yac4 ?rac4
              case yac4 =>
                intro w'
                go_simp
                try with_reducible rfl
              case rac4 =>
              simp only [Act.put, List.setIfInBounds_toArray, List.set_cons_zero, List.set_cons_succ]
              refine RgN.n_takeW 6 ?vac5 (by simp only [List.getElem?_toArray, List.getElem?_cons_zero, List.getElem?_cons_succ]; exact rfl) (by kernel_rfl) (by kernel_rfl) (by kernel_rfl) rfl (by rfl) ?yac5 ?rac5
              case yac5 =>
                intro w'
                go_simp
                try with_reducible rfl
              case rac5 =>
              simp only [Act.put, List.setIfInBounds_toArray, List.set_cons_zero, List.set_cons_succ]
              refine RgN.n_takeW 2 ?vac6 (by simp only [List.getElem?_toArray, List.getElem?_cons_zero, List.getElem?_cons_succ]; exact rfl) (by kernel_rfl) (by kernel_rfl) (by kernel_rfl) rfl (by rfl) ?yac6 ?rac6
              case yac6 =>
                intro w'
                go_simp
                try with_reducible rfl
              case rac6 =>
              simp only [Act.put, List.setIfInBounds_toArray, List.set_cons_zero, List.set_cons_succ]
              refine RgN.n_take 3 ?vac7 (by simp only [List.getElem?_toArray, List.getElem?_cons_zero, List.getElem?_cons_succ]; exact rfl) (by kernel_rfl) (by kernel_rfl) (by kernel_rfl) (by kernel_rfl) (by rfl) ce ?yac7 ?rac7
              case yac7 =>
                intro w' hS
                go_simp
                try with_reducible rfl
              case rac7 =>
              simp only [Act.put, List.setIfInBounds_toArray, List.set_cons_zero, List.set_cons_succ]
              refine RgN.n_one 7 (by kernel_rfl) (by simp only [List.getElem?_toArray, List.getElem?_cons_zero, List.getElem?_cons_succ]; exact rfl) (fun K hK => ?_)
              go_simp
              refine (hBk.out _).mono ?_
              rintro e W7 ⟨⟨b1, b2, b3, rfl⟩, hb7⟩
              have hP7 : Hid (RP W4 gp pa pn pc I6 ge Ls i g cap (ps.set j (t', v)) W7) := hPe.out.below hb7
              obtain ⟨v2, hv2⟩ : ∃ v2, blk b1 b2 b3 (S v1).data.toList = v2 := ⟨_, rfl⟩
              rw [hv2]
              have hV2 : Hid (v2.length ≤ 3 * v.length + 3 ∧ utf v2 = true ∧ normal v2 = normal v) := by
                rw [S_l] at hv2
                have hl1 := blk_len b1 b2 b3 v1
                obtain ⟨u1, u2⟩ := val_eq hV1.out.1 huv.out b1 b2 b3
                rw [hv2] at hl1 u1 u2
                exact ⟨by rw [← hV1.out.2]; exact hl1, u1, u2⟩
              have cd7 : W7.cell? ⟨ge, i, none⟩ = some (.slice (some ⟨g, 0, none⟩) m cap) := by
                obtain ⟨q1, q2⟩ := hP7.out.cells hiL.out
                rw [List.length_set, hm.out] at q1
                exact q1
              have hc7 : W7.cell? ⟨g, j * 2 + 1, none⟩ = some (.string (S v)) ∧ W7.frozen? ⟨g, j * 2 + 1, none⟩ = false := by
                obtain ⟨q1, q2⟩ := hP7.out.cells hiL.out
                obtain ⟨q3, q4, q5, q6⟩ := q2 j (by rw [List.length_set]; exact hjP.out)
                simp only [List.getElem_set_self] at q4
                exact ⟨q4, q6⟩
              obtain ⟨hc7a, hc7b⟩ := hc7
              have hP8 : Hid (RP W4 gp pa pn pc I6 ge Ls i g cap (ps.set j (t', v2)) (W7.setCell ⟨g, j * 2 + 1, none⟩ (.string (S v2)))) := by
                have := hP7.out.put2 hiL.out j (by rw [List.length_set]; exact hjP.out) v2
                simp only [List.getElem_set_self, List.set_set] at this
                exact this
              clear hb7 hv2
              go_simp
              refine hK.out _ _ (fun _ => cd7) ?_
              clear hK K
              try simp only [Act.put, List.setIfInBounds_toArray, List.set_cons_zero, List.set_cons_succ]
              refine RgN.n_one 8 (by kernel_rfl) (by simp only [List.getElem?_toArray, List.getElem?_cons_zero, List.getElem?_cons_succ]; exact rfl) (fun K hK => ?_)
              go_simp
              refine hK.out _ _ (fun h => by cases h) ?_
              clear hK K
              try simp only [Act.put, List.setIfInBounds_toArray, List.set_cons_zero, List.set_cons_succ]
              refine RgN.n_one 9 (by kernel_rfl) (by simp only [List.getElem?_toArray, List.getElem?_cons_zero, List.getElem?_cons_succ]; exact rfl) (fun K hK => ?_)
              go_simp
              refine hK.out _ _ (fun h => by cases h) ?_
              clear hK K
              try simp only [Act.put, List.setIfInBounds_toArray, List.set_cons_zero, List.set_cons_succ]
              refine RgN.n_one 10 (by kernel_rfl) (by simp only [List.getElem?_toArray, List.getElem?_cons_zero, List.getElem?_cons_succ]; exact rfl) (fun K hK => ?_)
              go_simp
              refine hK.out _ _ (fun h => by cases h) ?_
              clear hK K
              try simp only [Act.put, List.setIfInBounds_toArray, List.set_cons_zero, List.set_cons_succ]
              refine RgN.n_done (by kernel_rfl) ?_ _
              obtain ⟨W8, hW8⟩ : ∃ X, W7.setCell ⟨g, j * 2 + 1, none⟩ (.string (S v2)) = X := ⟨_, rfl⟩
              rw [hW8] at hP8 ⊢
              clear ce cd7 hc7a hc7b hW8 hBk hPe hP7
              have jp : (0 : Int) < (j : Int) + 1 := by omega
              obtain ⟨X, hX⟩ : ∃ X, ps.set j (t', v2) = X := ⟨_, rfl⟩
              have hX' : Hid (ps.set j (t', v2) = X) := hX
              rw [hX] at hP8
              have hXl : Hid (X.length = m) := by unfold Hid; rw [← hX, List.length_set]; exact hm.out
              clear hX
              have hNy : Hid (Calls Tryd.prog 7 #[.pointer (some ⟨gp, 0, none⟩), .int .i64 ((j : Int) + 1)] W8 fun e w' => NxR W4 gp pa pn pc I6 ge Ls i g cap X ((j : Int) + 1) e w') := hNx.out I6 X W8 ((j : Int) + 1) hP8.out jp (by omega) (by have := hIb.out; have := hk3'.out; omega)
              go_upto_region 21 with fail
              go_wp2_with fail
              refine hNy.out.mono ?_
              rintro e W9 ⟨k, I9, rfl, hk9, hI9, hP9⟩
              have hk9' : Hid (k ≤ j ∧ I9 ≤ I + 4) := ⟨by omega, by have := hk3'.out; omega⟩
              have hPf : Hid (RP W4 gp pa pn pc I9 ge Ls i g cap X W9) := hP9
              have hjX : j < X.length := by rw [hXl.out]; exact hjm'.out
              have hkX : k < X.length := by have := hk9'.out.1; omega
              have hXj : X[j] = (t', v2) := by simp only [← hX'.out, List.getElem_set_self]
              obtain ⟨q3, hq3⟩ : ∃ q, X[k] = q := ⟨_, rfl⟩
              obtain ⟨s3t, s3v⟩ := q3
              have hP10 := (hPf.out.putB hiL.out j hjX (s3t, s3v)).below (Du.drewN_below _ _ 1)
              have hkX2 : k < (X.set j (s3t, s3v)).length := by rw [List.length_set]; exact hkX
              obtain ⟨W10, hW10⟩ : ∃ Z, ((W9.setCell ⟨g, j * 2, none⟩ (.string (S s3t))).setCell ⟨g, j * 2 + 1, none⟩ (.string (S s3v))).drew = Z := ⟨_, rfl⟩
              have hP10 : RP W4 gp pa pn pc I9 ge Ls i g cap (X.set j (s3t, s3v)) W10 := by rw [← hW10]; exact hP10
              have hP11 := hP10.putB hiL.out k hkX2 (t', v2)
              dsimp only at hP11
              obtain ⟨y1, y2⟩ := hPf.out.cells hiL.out
              obtain ⟨a1, a2, a3f, a4f⟩ := y2 j hjX
              obtain ⟨a5, a6, _, _⟩ := y2 k hkX
              obtain ⟨y3, y4⟩ := hP10.cells hiL.out
              obtain ⟨x5, x6, d5, d6, d7, d8⟩ : ∃ x5 x6, W10.cell? ⟨g, k * 2, none⟩ = some (.string x5) ∧ W10.cell? ⟨g, k * 2 + 1, none⟩ = some (.string x6) ∧ W10.frozen? ⟨g, k * 2, none⟩ = false ∧ W10.frozen? ⟨g, k * 2 + 1, none⟩ = false := ⟨_, _, y4 k hkX2⟩
              rw [hXl.out] at y1
              rw [hXj] at a1 a2
              rw [hq3] at a5 a6
              have hIv2 : Hid (Inv L (Ls.set i (some ⟨g, 0, none⟩, cap, (X.set j (s3t, s3v)).set k (t', v2))) i (j + 1) I9) := by
                have hjS : j < ((Ls.set i ((some ⟨g, 0, none⟩, cap, ps) : PX))[i]'hiS.out).2.2.length := by simp only [List.getElem_set_self]; exact hjP.out
                have h1 := hIv.out.step hiS.out hjS k hk9'.out.1 (t', v2) (by
                  simp only [List.getElem_set_self]
                  rw [hkq.out]
                  exact kp_eq hTq.out.1 hTq.out.2.1 huv.out hV2.out.2.1 hV2.out.2.2) (by have h2 := hTq.out.2.2; have h3 := hV2.out.1; have h4 := hsz.out; dsimp only; omega) hk9'.out.2 (some ⟨g, 0, none⟩) cap ((X.set j (s3t, s3v)).set k (t', v2)) (by
                  simp only [List.getElem_set_self, hX'.out, hq3, hXj])
                rw [List.set_set] at h1
                exact h1
              have hP11' : Hid (RP W4 gp pa pn pc I9 ge Ls i g cap ((X.set j (s3t, s3v)).set k (t', v2)) ((W10.setCell ⟨g, k * 2, none⟩ (.string (S t'))).setCell ⟨g, k * 2 + 1, none⟩ (.string (S v2)))) := hP11
              have hfl : Hid (((X.set j (s3t, s3v)).set k (t', v2)).length = m) := by unfold Hid; rw [List.length_set, List.length_set]; exact hXl.out
              have j8 : (k : Int) < (m : Int) := by have := hk9'.out.1; have := hjm'.out; omega
              have kz : (0 : Int) ≤ (k : Int) := Int.natCast_nonneg _
              obtain ⟨s1, hs1⟩ : ∃ s, S t' = s := ⟨_, rfl⟩
              obtain ⟨s2, hs2⟩ : ∃ s, S v2 = s := ⟨_, rfl⟩
              obtain ⟨s3, hs3⟩ : ∃ s, S s3t = s := ⟨_, rfl⟩
              obtain ⟨s4, hs4⟩ : ∃ s, S s3v = s := ⟨_, rfl⟩
              simp only [hs1, hs2] at a1 a2 hP11'
              simp only [hs3, hs4] at a5 a6 hW10
              have cf0 : W9.cell? ⟨ge, i, none⟩ = some (.slice (some ⟨g, 0, none⟩) m cap) := y1
              have cf : W9.drew.cell? ⟨ge, i, none⟩ = some (.slice (some ⟨g, 0, none⟩) m cap) ∧ W9.drew.cell? ⟨g, j * 2, none⟩ = some (.string s1) ∧ W9.drew.cell? ⟨g, j * 2 + 1, none⟩ = some (.string s2) ∧ W9.drew.cell? ⟨g, k * 2, none⟩ = some (.string s3) ∧ W9.drew.cell? ⟨g, k * 2 + 1, none⟩ = some (.string s4) := ⟨y1, a1, a2, a5, a6⟩
              have z2 : 0 + k * 2 = k * 2 := Nat.zero_add _
              clear hk9 hI9 hP9 hPf hP10 hP11 cf0 y1 y2 y3 y4 hNy hP8 hV2 hTq hV1 hk3' hXj hq3 hjX hkX hkX2 hs1 hs2 hs3 hs4 a5 a6
              go_upto_region 22 with fail
              refine Du.regionP (fun i => i == 3 || i == 8 || i == 13 || i == 20 || i == 15 || i == 22 || i == 16 || i == 23) (fun w' => w'.cell? ⟨ge, i, none⟩ = some (.slice (some ⟨g, 0, none⟩) m cap) ∧ w'.cell? ⟨g, j * 2, none⟩ = some (.string s1) ∧ w'.cell? ⟨g, j * 2 + 1, none⟩ = some (.string s2) ∧ w'.cell? ⟨g, k * 2, none⟩ = some (.string s3) ∧ w'.cell? ⟨g, k * 2 + 1, none⟩ = some (.string s4)) (by kernel_rfl) ?_
              refine RgN.n_takeW 0 ?vad1 (by simp only [List.getElem?_toArray, List.getElem?_cons_zero]; exact rfl) (by kernel_rfl) (by kernel_rfl) (by kernel_rfl) rfl (by rfl) ?yad1 ?rad1
              case yad1 =>
                intro w'
                go_simp
                try with_reducible rfl
              case rad1 =>
              simp only [Act.put, List.setIfInBounds_toArray, List.set_cons_zero, List.set_cons_succ]
              refine RgN.n_takeW 1 ?vad2 (by simp only [List.getElem?_toArray, List.getElem?_cons_zero, List.getElem?_cons_succ]; exact rfl) (by kernel_rfl) (by kernel_rfl) (by kernel_rfl) rfl (by rfl) ?yad2 ?rad2
              case yad2 =>
                intro w'
                go_simp
                try with_reducible rfl
              case rad2 =>
              simp only [Act.put, List.setIfInBounds_toArray, List.set_cons_zero, List.set_cons_succ]
              refine RgN.n_takeW 4 ?vad3 (by simp only [List.getElem?_toArray, List.getElem?_cons_zero, List.getElem?_cons_succ]; exact rfl) (by kernel_rfl) (by kernel_rfl) (by kernel_rfl) rfl (by rfl) ?yad3 ?rad3
              case yad3 =>
                intro w'
                go_simp
                try with_reducible rfl
              case rad3 =>
              simp only [Act.put, List.setIfInBounds_toArray, List.set_cons_zero, List.set_cons_succ]
              refine RgN.n_takeW 5 ?vad4 (by simp only [List.getElem?_toArray, List.getElem?_cons_zero, List.getElem?_cons_succ]; exact rfl) (by kernel_rfl) (by kernel_rfl) (by kernel_rfl) rfl (by rfl) ?yad4 ?rad4
              case yad4 =>
                intro w'
                go_simp
                try with_reducible rfl
              case rad4 =>
              simp only [Act.put, List.setIfInBounds_toArray, List.set_cons_zero, List.set_cons_succ]
              refine RgN.n_takeW 6 ?vad5 (by simp only [List.getElem?_toArray, List.getElem?_cons_zero, List.getElem?_cons_succ]; exact rfl) (by kernel_rfl) (by kernel_rfl) (by kernel_rfl) rfl (by rfl) ?yad5 ?rad5
              case yad5 =>
                intro w'
                go_simp
                try with_reducible rfl
              case rad5 =>
              simp only [Act.put, List.setIfInBounds_toArray, List.set_cons_zero, List.set_cons_succ]
              refine RgN.n_takeW 9 ?vad6 (by simp only [List.getElem?_toArray, List.getElem?_cons_zero, List.getElem?_cons_succ]; exact rfl) (by kernel_rfl) (by kernel_rfl) (by kernel_rfl) rfl (by rfl) ?yad6 ?rad6
              case yad6 =>
                intro w'
                go_simp
                try with_reducible rfl
              case rad6 =>
              simp only [Act.put, List.setIfInBounds_toArray, List.set_cons_zero, List.set_cons_succ]
              refine RgN.n_takeW 10 ?vad7 (by simp only [List.getElem?_toArray, List.getElem?_cons_zero, List.getElem?_cons_succ]; exact rfl) (by kernel_rfl) (by kernel_rfl) (by kernel_rfl) rfl (by rfl) ?yad7 ?rad7
              case yad7 =>
                intro w'
                go_simp
                try with_reducible rfl
              case rad7 =>
              simp only [Act.put, List.setIfInBounds_toArray, List.set_cons_zero, List.set_cons_succ]
              refine RgN.n_takeW 11 ?vad8 (by simp only [List.getElem?_toArray, List.getElem?_cons_zero, List.getElem?_cons_succ]; exact rfl) (by kernel_rfl) (by kernel_rfl) (by kernel_rfl) rfl (by rfl) ?yad8 ?rad8
              case yad8 =>
                intro w'
                go_simp
                try with_reducible rfl
              case rad8 =>
              simp only [Act.put, List.setIfInBounds_toArray, List.set_cons_zero, List.set_cons_succ]
              refine RgN.n_takeW 14 ?vad9 (by simp only [List.getElem?_toArray, List.getElem?_cons_zero, List.getElem?_cons_succ]; exact rfl) (by kernel_rfl) (by kernel_rfl) (by kernel_rfl) rfl (by rfl) ?yad9 ?rad9
              case yad9 =>
                intro w'
                go_simp
                try with_reducible rfl
              case rad9 =>
              simp only [Act.put, List.setIfInBounds_toArray, List.set_cons_zero, List.set_cons_succ]
              refine RgN.n_takeW 17 ?vad10 (by simp only [List.getElem?_toArray, List.getElem?_cons_zero, List.getElem?_cons_succ]; exact rfl) (by kernel_rfl) (by kernel_rfl) (by kernel_rfl) rfl (by rfl) ?yad10 ?rad10
              case yad10 =>
                intro w'
                go_simp
                try with_reducible rfl
              case rad10 =>
              simp only [Act.put, List.setIfInBounds_toArray, List.set_cons_zero, List.set_cons_succ]
              refine RgN.n_takeW 18 ?vad11 (by simp only [List.getElem?_toArray, List.getElem?_cons_zero, List.getElem?_cons_succ]; exact rfl) (by kernel_rfl) (by kernel_rfl) (by kernel_rfl) rfl (by rfl) ?yad11 ?rad11
              case yad11 =>
                intro w'
                go_simp
                try with_reducible rfl
              case rad11 =>
              simp only [Act.put, List.setIfInBounds_toArray, List.set_cons_zero, List.set_cons_succ]
              refine RgN.n_takeW 21 ?vad12 (by simp only [List.getElem?_toArray, List.getElem?_cons_zero, List.getElem?_cons_succ]; exact rfl) (by kernel_rfl) (by kernel_rfl) (by kernel_rfl) rfl (by rfl) ?yad12 ?rad12
              case yad12 =>
                intro w'
                go_simp
                try with_reducible rfl
              case rad12 =>
              simp only [Act.put, List.setIfInBounds_toArray, List.set_cons_zero, List.set_cons_succ]
              refine RgN.n_takeW 2 ?vad13 (by simp only [List.getElem?_toArray, List.getElem?_cons_zero, List.getElem?_cons_succ]; exact rfl) (by kernel_rfl) (by kernel_rfl) (by kernel_rfl) rfl (by rfl) ?yad13 ?rad13
              case yad13 =>
                intro w'
                go_simp
                try with_reducible rfl
              case rad13 =>
              simp only [Act.put, List.setIfInBounds_toArray, List.set_cons_zero, List.set_cons_succ]
              refine RgN.n_takeW 7 ?vad14 (by simp only [List.getElem?_toArray, List.getElem?_cons_zero, List.getElem?_cons_succ]; exact rfl) (by kernel_rfl) (by kernel_rfl) (by kernel_rfl) rfl (by rfl) ?yad14 ?rad14
              case yad14 =>
                intro w'
                go_simp
                try with_reducible rfl
              case rad14 =>
              simp only [Act.put, List.setIfInBounds_toArray, List.set_cons_zero, List.set_cons_succ]
              refine RgN.n_takeW 12 ?vad15 (by simp only [List.getElem?_toArray, List.getElem?_cons_zero, List.getElem?_cons_succ]; exact rfl) (by kernel_rfl) (by kernel_rfl) (by kernel_rfl) rfl (by rfl) ?yad15 ?rad15
              case yad15 =>
                intro w'
                go_simp
                try with_reducible rfl
              case rad15 =>
              simp only [Act.put, List.setIfInBounds_toArray, List.set_cons_zero, List.set_cons_succ]
              refine RgN.n_takeW 19 ?vad16 (by simp only [List.getElem?_toArray, List.getElem?_cons_zero, List.getElem?_cons_succ]; exact rfl) (by kernel_rfl) (by kernel_rfl) (by kernel_rfl) rfl (by rfl) ?yad16 ?rad16
              case yad16 =>
                intro w'
                go_simp
                try with_reducible rfl
              case rad16 =>
              simp only [Act.put, List.setIfInBounds_toArray, List.set_cons_zero, List.set_cons_succ]
              refine RgN.n_take 3 ?vad17 (by simp only [List.getElem?_toArray, List.getElem?_cons_zero, List.getElem?_cons_succ]; exact rfl) (by kernel_rfl) (by kernel_rfl) (by kernel_rfl) (by kernel_rfl) (by rfl) cf ?yad17 ?rad17
              case yad17 =>
                intro w' hS
                obtain ⟨h0, h1, h2, h3, h4⟩ := hS
                go_simp
                try with_reducible rfl
              case rad17 =>
              simp only [Act.put, List.setIfInBounds_toArray, List.set_cons_zero, List.set_cons_succ]
              refine RgN.n_take 8 ?vad18 (by simp only [List.getElem?_toArray, List.getElem?_cons_zero, List.getElem?_cons_succ]; exact rfl) (by kernel_rfl) (by kernel_rfl) (by kernel_rfl) (by kernel_rfl) (by rfl) cf ?yad18 ?rad18
              case yad18 =>
                intro w' hS
                obtain ⟨h0, h1, h2, h3, h4⟩ := hS
                go_simp
                try with_reducible rfl
              case rad18 =>
              simp only [Act.put, List.setIfInBounds_toArray, List.set_cons_zero, List.set_cons_succ]
              refine RgN.n_take 13 ?vad19 (by simp only [List.getElem?_toArray, List.getElem?_cons_zero, List.getElem?_cons_succ]; exact rfl) (by kernel_rfl) (by kernel_rfl) (by kernel_rfl) (by kernel_rfl) (by rfl) cf ?yad19 ?rad19
              case yad19 =>
                intro w' hS
                obtain ⟨h0, h1, h2, h3, h4⟩ := hS
                go_simp
                try with_reducible rfl
              case rad19 =>
              simp only [Act.put, List.setIfInBounds_toArray, List.set_cons_zero, List.set_cons_succ]
              refine RgN.n_take 20 ?vad20 (by simp only [List.getElem?_toArray, List.getElem?_cons_zero, List.getElem?_cons_succ]; exact rfl) (by kernel_rfl) (by kernel_rfl) (by kernel_rfl) (by kernel_rfl) (by rfl) cf ?yad20 ?rad20
              case yad20 =>
                intro w' hS
                obtain ⟨h0, h1, h2, h3, h4⟩ := hS
                go_simp
                try with_reducible rfl
              case rad20 =>
              simp only [Act.put, List.setIfInBounds_toArray, List.set_cons_zero, List.set_cons_succ]
              refine RgN.n_take 15 ?vad21 (by simp only [List.getElem?_toArray, List.getElem?_cons_zero, List.getElem?_cons_succ]; exact rfl) (by kernel_rfl) (by kernel_rfl) (by kernel_rfl) (by kernel_rfl) (by rfl) cf ?yad21 ?rad21
              case yad21 =>
                intro w' hS
                obtain ⟨h0, h1, h2, h3, h4⟩ := hS
                go_simp
                try with_reducible rfl
              case rad21 =>
              simp only [Act.put, List.setIfInBounds_toArray, List.set_cons_zero, List.set_cons_succ]
              refine RgN.n_take 22 ?vad22 (by simp only [List.getElem?_toArray, List.getElem?_cons_zero, List.getElem?_cons_succ]; exact rfl) (by kernel_rfl) (by kernel_rfl) (by kernel_rfl) (by kernel_rfl) (by rfl) cf ?yad22 ?rad22
              case yad22 =>
                intro w' hS
                obtain ⟨h0, h1, h2, h3, h4⟩ := hS
                go_simp
                try with_reducible rfl
              case rad22 =>
              simp only [Act.put, List.setIfInBounds_toArray, List.set_cons_zero, List.set_cons_succ]
              refine RgN.n_take 16 ?vad23 (by simp only [List.getElem?_toArray, List.getElem?_cons_zero, List.getElem?_cons_succ]; exact rfl) (by kernel_rfl) (by kernel_rfl) (by kernel_rfl) (by kernel_rfl) (by rfl) cf ?yad23 ?rad23
              case yad23 =>
                intro w' hS
                obtain ⟨h0, h1, h2, h3, h4⟩ := hS
                go_simp
                try with_reducible rfl
              case rad23 =>
              simp only [Act.put, List.setIfInBounds_toArray, List.set_cons_zero, List.set_cons_succ]
              refine RgN.n_take 23 ?vad24 (by simp only [List.getElem?_toArray, List.getElem?_cons_zero, List.getElem?_cons_succ]; exact rfl) (by kernel_rfl) (by kernel_rfl) (by kernel_rfl) (by kernel_rfl) (by rfl) cf ?yad24 ?rad24
              case yad24 =>
                intro w' hS
                obtain ⟨h0, h1, h2, h3, h4⟩ := hS
                go_simp
                try with_reducible rfl
              case rad24 =>
              simp only [Act.put, List.setIfInBounds_toArray, List.set_cons_zero, List.set_cons_succ]
              refine RgN.n_one 24 (by kernel_rfl) (by simp only [List.getElem?_toArray, List.getElem?_cons_zero, List.getElem?_cons_succ]; exact rfl) (fun K hK => ?_)
              go_simp
              refine hK.out _ _ (fun h => by cases h) ?_
              clear hK K
              try simp only [Act.put, List.setIfInBounds_toArray, List.set_cons_zero, List.set_cons_succ]
              refine RgN.n_one 25 (by kernel_rfl) (by simp only [List.getElem?_toArray, List.getElem?_cons_zero, List.getElem?_cons_succ]; exact rfl) (fun K hK => ?_)
              go_simp
              refine hK.out _ _ (fun h => by cases h) ?_
              clear hK K
              try simp only [Act.put, List.setIfInBounds_toArray, List.set_cons_zero, List.set_cons_succ]
              refine RgN.n_one 26 (by kernel_rfl) (by simp only [List.getElem?_toArray, List.getElem?_cons_zero, List.getElem?_cons_succ]; exact rfl) (fun K hK => ?_)
              go_simp
              refine hK.out _ _ (fun h => by cases h) ?_
              clear hK K
              try simp only [Act.put, List.setIfInBounds_toArray, List.set_cons_zero, List.set_cons_succ]
              refine RgN.n_one 27 (by kernel_rfl) (by simp only [List.getElem?_toArray, List.getElem?_cons_zero, List.getElem?_cons_succ]; exact rfl) (fun K hK => ?_)
              go_simp
              refine hK.out _ _ (fun h => by cases h) ?_
              clear hK K
              try simp only [Act.put, List.setIfInBounds_toArray, List.set_cons_zero, List.set_cons_succ]
              refine RgN.n_done (by kernel_rfl) ?_ _
              obtain ⟨W11, hW11⟩ : ∃ Z, (W10.setCell ⟨g, k * 2, none⟩ (.string s1)).setCell ⟨g, k * 2 + 1, none⟩ (.string s2) = Z := ⟨_, rfl⟩
              rw [hW11] at hP11' ⊢
              clear cf a1 a2 a3f a4f d5 d6 d7 d8 hW10 hW11
              go_wp2_with fail
              go_roundw
              case rel => exact ⟨j + 1, I9, _, hjm'.out, by go_num, hP11'.out, hIv2.out, hfl.out⟩
              case measure => have := hjm'.out; simp [intOf]; omega
          · have e : m = j := by omega
            subst e
            have j1 : ¬ (m : Int) < (m : Int) := by omega
            have hRS : Hid (RS W4 gp pa pn pc I ge (Ls.set i (some ⟨g, 0, none⟩, cap, ps)) wr ∧ Inv L (Ls.set i (some ⟨g, 0, none⟩, cap, ps)) (i + 1) 0 I) :=
              ⟨hQ.out.1, hQ.out.2.1.row (by rw [List.length_set]; exact hiL.out) (by simp only [List.getElem_set_self]; exact hm.out) hm8⟩
            clear hQ hcs hjm hj
            go_wp2_with fail
            go_roundw
            case rel => exact ⟨i + 1, I, _, hlt'.out, by go_num, hRS⟩
            case measure => have := hlt'.out; simp [intOf]; omega
      · have e : n = i := by omega
        subst e
        have i1 : ¬ (n : Int) < (n : Int) := by omega
        have hBw : Hid (Below w.heap.size w wr ∧ Below W4.heap.size W4 wr) := ⟨hB4.out.trans (hR.out.1.2.1.mono hB4.out.size), hR.out.1.2.1⟩
        have hLn : Ls.length = n := by rw [hR.out.2.1, hn'.out]
        obtain ⟨hokL, hkeq⟩ := hR.out.2.keys hD.out
        have hK : Hid (Calls Tryd.prog 5 #[.slice (some ⟨ge, 0, none⟩) n ec] wr fun e w' => KeyQ wr (sd Ls) n e w') := by
          refine Ke.key_any (some ⟨ge, 0, none⟩) ec n Ls wr (hG'.out.below hBw.out.1) hLn hR.out.1.2.2.2.2.drow (fun r hr p hp => ?_) (fun r hr => ?_) (by omega)
          · obtain ⟨x, hx, rfl⟩ := List.getElem_of_mem hr
            obtain ⟨y, hy, rfl⟩ := List.getElem_of_mem hp
            have := hR.out.2.2.2.1 x hx y hy
            have := bnd_le n 0 x y
            omega
          · have := (hokL.2 _ (List.mem_map.2 ⟨r, hr, rfl⟩)).2.1
            omega
        have hokL' : Hid (OkD (sd Ls) ∧ keys (sd Ls) = keys (sd L)) := ⟨hokL, hkeq⟩
        clear hR hokL hkeq hLn hlt hi
        go_wp2_with fail
        refine hK.out.mono ?_
        rintro e W12 ⟨hb12, hK12⟩
        obtain ⟨la, lc, rfl, hlo⟩ : ∃ la lc, e = .returned (.tuple #[.slice la n lc, .nilIface]) ∧ OwnS W12 wr.heap.size (.slice la n lc) (keys (sd L)) := by
          rcases hK12 with ⟨_, la, lc, h, ho⟩ | ⟨hno, _⟩
          · exact ⟨la, lc, h, by rw [← hokL'.out.2]; exact ho⟩
          · exact (hno hokL'.out.1).elim
        have hB12 : Hid (Below w.heap.size w W12) := hBw.out.1.trans (hb12.mono hBw.out.1.size)
        have hkl : (keys (sd L)).length = n := by rw [Ke.keys_len, sd_len]; exact hn'.out
        have hS : Hid (Calls Tryd.prog 11 #[.slice ka n kc, .slice la n lc] W12 fun e w' => e = .returned (.bool true) ∧ ∃ q, w' = W12.drewN q) := by
          have h := sameTexts_any (keys (sd L)) (keys (sd L)) ka la kc lc W12 (by omega) (by omega) ((hrk.out.below hBw.out.2).below hb12) (ownS_row hlo).1
          rw [hkl, decide_eq_true rfl] at h
          exact h
        clear hK hK12 hb12 hlo hkl hBw
        go_wp2_with fail
        refine hS.out.mono ?_
        rintro e W13 ⟨rfl, q, rfl⟩
        clear hS
        go_wp2_with fail
        go_ret
        exact ⟨rfl, hB12.out.trans (Du.drewN_below _ _ _)⟩
end Bl
end Go.Proofs.YtoiilplnhecokaaDoor

namespace Go.Proofs.YtoiilplnhecokaaDoor
namespace Bl
open Go.RowKit Go.WideShapes Go.ChangeShapes
open Du (PRow DRow PX GRow sd pV xV pV_len xV_len add_o)
open Ke (Szs zR zP rows_of rdn_of sum_mem sum_len err_head ErrsG)
set_option linter.unusedVariables false
set_option linter.unusedSimpArgs false
set_option maxRecDepth 100000

/-- A name that came in, its sizes besides. -/
theorem dn_in {H : Type} {enc : TypeId × Value → H} {w : World} {base : Nat} {spare : Nat → Bool} {held : Bool} {v : Value} {d : DataW H} {p : List MemPlace}
    (hf : DataW.Trod enc Tryd.prog w base spare held 23 v d p) (hv1 : v.cells = #[v]) (hB : Rows.uptoBulk d ≤ 1048576) : ∃ a L cap, v = .slice a L.length cap ∧ DRow w a L ∧ Szs L ∧ (∀ r ∈ L, ∀ p ∈ r.2.2, p.1.length + p.2.length ≤ 1048576) := by
  obtain ⟨fuel, hf⟩ := hf
  rw [hv1] at hf
  have e3 : Tryd.prog.cellsOf 36 = 1 := by kernel_rfl
  obtain ⟨a, L, cap, hv, hr, hP, hb, hc, hm⟩ := rows_of ((none, 0, []) : PX) xV 1 (fun x => PRow w x.1 x.2.2 ∧ x.2.2.length ≤ x.2.1 ∧ x.2.1 ≤ maxLen) zR Tryd.underlying23 e3 (by decide) (fun x => ⟨_, rfl⟩) (d := d) (p := p) (fun n cs d p h => rdn_of h) hf
  have hsz : ∀ r ∈ L, ∀ p ∈ r.2.2, p.1.length + p.2.length ≤ 1048576 := fun r hr p hp => by
    have h1 := sum_mem zR L r hr
    have h2 := sum_mem zP r.2.2 p hp
    have h3 : zR r = (r.2.2.map zP).sum + 1 := rfl
    have h4 : zP p = p.1.length + p.2.length + 1 := rfl
    omega
  refine ⟨a, L, cap, hv, ⟨hr, hP⟩, ⟨fun r hr p hp => Nat.le_trans (hsz r hr p hp) (by omega), fun r hr => ?_, ?_⟩, hsz⟩
  · have h1 := sum_mem zR L r hr
    have h2 := sum_len zP (fun _ => by unfold zP; omega) r.2.2
    have h3 : zR r = (r.2.2.map zP).sum + 1 := rfl
    omega
  · have h2 := sum_len zR (fun x => by unfold zR; omega) L
    omega
def iV (x : Int) : List Value := [.int .i64 x]
/-- A list of numbers that came in. -/
theorem ints_in {H : Type} {enc : TypeId × Value → H} {w : World} {base : Nat} {spare : Nat → Bool} {held : Bool} {v : Value} {d : DataW H} {p : List MemPlace}
    (hf : DataW.Trod enc Tryd.prog w base spare held 24 v d p) (hv1 : v.cells = #[v]) (hB : Rows.uptoBulk d ≤ 1048576) : ∃ a n cap, v = .slice a n cap ∧ NRw w a n ∧ n ≤ 1073741824 := by
  obtain ⟨fuel, hf⟩ := hf
  rw [hv1] at hf
  have e3 : Tryd.prog.cellsOf 3 = 1 := by kernel_rfl
  obtain ⟨a, L, cap, hv, hr, _, hb, hc, hm⟩ := rows_of (0 : Int) iV 1 (fun _ => True) (fun _ => 1) Tryd.underlying24 e3 (by decide) (fun x => ⟨_, rfl⟩) (d := d) (p := p) (fun n cs d p h => by
    obtain ⟨x, hx, hd, _⟩ := DataW.trod_int Tryd.underlying3 h
    refine ⟨x, hx, trivial, ?_⟩
    injection hd with hd _
    rw [hd]
    simp [Rows.uptoBulk]) hf
  refine ⟨a, L.length, cap, hv, fun i hi => ?_, ?_⟩
  · obtain ⟨b, off, e, h⟩ := hr i hi
    have := h 0 (by omega)
    rw [Nat.mul_one] at this
    exact ⟨b, off, L[i], e, this⟩
  · have : (L.map fun _ => 1).sum = L.length := by
      clear hv hr hb hc
      induction L with
      | nil => rfl
      | cons x l ih => simp [List.sum_cons] at ih ⊢; omega
    omega
/-- What the row lists. -/
theorem laid_in {W : World} {L0 : List (String × DataW Unit)} (e0 : L0 = [("roster/attr.supers", Rows.laid_roster_attr_supers), ("roster/attr.syntaxes", Rows.laid_roster_attr_syntaxes), ("roster/attr.usages", Rows.laid_roster_attr_usages), ("roster/dn.ErrUTF8", Rows.laid_roster_dn_ErrUTF8), ("roster/dn.ErrTwice", Rows.laid_roster_dn_ErrTwice), ("roster/dn.ErrWide", Rows.laid_roster_dn_ErrWide), ("roster/dn.ErrMade", Rows.laid_roster_dn_ErrMade)]) (hp : laidMetH Tryd.prog L0 W ↔ laidMet Tryd.prog L0 W) (hL : laidMetH Tryd.prog L0 W) : NumT3 W ∧ ErrsG W := by
  have h := hp.1 hL
  rw [e0] at h
  have hs := tab_supers h
  have hy := tab_syntaxes h.tail
  have hu := tab_usages h.tail.tail
  have h := h.tail.tail.tail
  obtain ⟨t3, u3, h3⟩ := err_head (g := "roster/dn.ErrUTF8") (G := 3) (by kernel_rfl) (by kernel_rfl) h
  obtain ⟨t2, u2, h2⟩ := err_head (g := "roster/dn.ErrTwice") (G := 2) (by kernel_rfl) (by kernel_rfl) h.tail
  obtain ⟨t0, u0, h0⟩ := err_head (g := "roster/dn.ErrWide") (G := 0) (by kernel_rfl) (by kernel_rfl) h.tail.tail
  obtain ⟨t1, u1, h1⟩ := err_head (g := "roster/dn.ErrMade") (G := 1) (by kernel_rfl) (by kernel_rfl) h.tail.tail.tail
  exact ⟨⟨hs, hy, hu⟩, t0, u0, t1, u1, t2, u2, t3, u3, h0, h1, h2, h3⟩
end Bl
end Go.Proofs.YtoiilplnhecokaaDoor
