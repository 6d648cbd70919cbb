import Derived.Test.YtndciaidalnljaaBhSpW
import Derived.Test.YtndciaidalnljaaBhSound
import Derived.Test.YtndciaidalnljaaBHeadLaw
namespace Go.Proofs.Ytndciaidalnljaa
open Go.RowKit
open BerMath (Hd HR num hAt)
set_option linter.unusedVariables false
/-- What Head answers of a spelt tree, with anything behind it, and of a front of it. -/
theorem head_whole (c : Nat) (m : Bool) (t len k : Nat) (rest : List UInt8) (more : ByteArray) (hc : c ≤ 3) (ht : t ≤ 30) (hs : Says len k) : headV (S (hdrL c m t len k ++ rest) ++ more) = .tuple #[.agg #[.int .i64 (c : Int), .bool m, .int .i64 (t : Int), .int .i64 (len : Int), .int .i64 ((2 + k : Nat) : Int)], .int .i64 0] := by
  have e : hAt (S (hdrL c m t len k ++ rest) ++ more).data.toList 0 (S (hdrL c m t len k ++ rest) ++ more).size = .ok ⟨c, m, t, len, 2 + k⟩ := by
    rw [app_l, S_l, List.append_assoc]
    refine hAt_hdr c m t len k _ _ hc ht hs ?_
    rw [ByteArray.size_append, S_size, List.length_append, hdrL_len]
    omega
  unfold headV
  rw [e]
  rfl
theorem head_front (c : Nat) (m : Bool) (t len k : Nat) (rest : List UInt8) (cut : Nat) (hc : c ≤ 3) (ht : t ≤ 30) (hs : Says len k) (hr : rest.length = len) (hk : cut < 2 + k + len) : headV ((S (hdrL c m t len k ++ rest)).extract 0 cut) = (if cut < 2 + k then .tuple #[.agg #[.int .i64 0, .bool false, .int .i64 0, .int .i64 0, .int .i64 0], .int .i64 20] else .tuple #[.agg #[.int .i64 (c : Int), .bool m, .int .i64 (t : Int), .int .i64 (len : Int), .int .i64 ((2 + k : Nat) : Int)], .int .i64 0]) := by
  have e1 : ((S (hdrL c m t len k ++ rest)).extract 0 cut).data.toList = (hdrL c m t len k ++ rest).take cut := by rw [take_l, S_l]
  have e2 : ((S (hdrL c m t len k ++ rest)).extract 0 cut).size = cut := by
    rw [← size_l, e1, List.length_take, List.length_append, hdrL_len]
    omega
  unfold headV
  rw [e1, e2]
  by_cases h : cut < 2 + k
  · rw [if_pos h, hAt_cut c m t len k rest cut hc ht hs h]
    rfl
  · rw [if_neg h, hAt_front c m t len k rest cut hc ht hs (by omega)]
    rfl
theorem wr_two (v x : Nat) (hv : v ≤ 67108864) (hx : x ≤ 67108864) : wrap64 ((v : Int) + (x : Int)) = (v : Int) + (x : Int) := by unfold wrap64; omega
set_option maxRecDepth 100000 in
set_option maxHeartbeats 1000000 in
theorem berHeads_walk (a : Option Addr) (n c : Nat) (D C T : Nat → Int) (M : Nat → Bool) (B : Nat → ByteArray) (fa : Option Addr) (fn fc : Nat) (F : Nat → Int) (cut : Int) (more : ByteArray) (w : World) (hn : IsNodes w a n D C T M B) (hf : FInts w fa fn F) (hl : n ≤ 140737488355328) (hB : ∀ i, i < n → (B i).size ≤ 140737488355328) (hm : more.size ≤ 140737488355328) :
    Calls Try.prog 3 #[.slice a n c, .slice fa fn fc, .int .i64 cut, .string more] w fun e w' => e = .returned (.bool true) ∧ Below w.heap.size w w' := by
  have HS : Hid (Calls Try.prog 4 #[.slice a n c] w fun e w' => SndR e n D C T M B ∧ Below w.heap.size w w') := sound_any a n c D C T M B w hn hl
  have HH : Hid (IsNodes w a n D C T M B ∧ FInts w fa fn F ∧ n ≤ 140737488355328 ∧ (∀ i, i < n → (B i).size ≤ 140737488355328) ∧ more.size ≤ 140737488355328) := ⟨hn, hf, hl, hB, hm⟩
  clear hn hf hl hB hm
  go_enter Try.func3, Try.ntmps3
  go_wp2_with fail
  refine HS.out.mono ?_
  rintro e w1 ⟨⟨g, rfl, hg⟩, hb1⟩
  have HM := small_any a n c D C T M B w1 (HH.out.1.below hb1) HH.out.2.2.1 HH.out.2.2.2.1
  have HM : Hid (Calls Try.prog 5 #[.slice a n c] w1 fun e w' => SmlR e n B ∧ Below w1.heap.size w1 w') := HM
  have hg' : Hid (g = true → 0 < n ∧ ∀ i, i < n → Good D C T M B i) := hg
  clear hg
  go_wp2_with fail
  refine HM.out.mono ?_
  rintro e w2 ⟨⟨o, rfl, ho⟩, hb2⟩
  have ho' : Hid (o = true → bsum B n ≤ 67108864) := ho
  have HB2 : Hid (Below w.heap.size w w2) := hb1.trans (hb2.mono hb1.size)
  clear ho hb1 hb2 HM HS
  cases g
  · go_wp2_with fail
    go_ret
    exact ⟨rfl, HB2.out⟩
  cases o
  · go_wp2_with fail
    go_ret
    exact ⟨rfl, HB2.out⟩
  have hpos : Hid (0 < n) := (hg'.out rfl).1
  have HSp : Hid (Calls Try.prog 6 #[.slice a n c, .slice fa fn fc] w2 fun e w' => SplR e (C 0).toNat (M 0) (T 0).toNat ∧ Below w2.heap.size w2 w') := spelt_any a n c D C T M B fa fn fc F w2 (HH.out.1.below HB2.out) (HH.out.2.1.below HB2.out) (hg'.out rfl).2 (hg'.out rfl).1 (ho'.out rfl)
  obtain ⟨gd1, gd2, gd3, gd4, _⟩ := (hg'.out rfl).2 0 (hg'.out rfl).1
  obtain ⟨cl, hcl⟩ : ∃ d : Nat, C 0 = (d : Int) := ⟨(C 0).toNat, by omega⟩
  obtain ⟨t, ht⟩ : ∃ d : Nat, T 0 = (d : Int) := ⟨(T 0).toNat, by omega⟩
  have hct : Hid (cl ≤ 3 ∧ t ≤ 30) := ⟨by omega, by omega⟩
  rw [hcl, ht] at HSp
  rw [Int.toNat_natCast, Int.toNat_natCast] at HSp
  clear gd1 gd2 gd3 gd4
  have n0 : (0 : Int) < (n : Int) := Int.ofNat_lt.2 (hg'.out rfl).1
  go_wp2_with fail
  refine HSp.out.mono ?_
  rintro e w3 ⟨⟨len, k, rest, sh, rfl, hs, hr, hbd⟩, hb3⟩
  have HB3 : Hid (Below w.heap.size w w3) := HB2.out.trans (hb3.mono HB2.out.size)
  have hX : (S (hdrL cl (M 0) t len k ++ rest)).size = 2 + k + len := by rw [S_size, List.length_append, hdrL_len, hr]
  have HH1 : Hid (∀ W, Calls Try.prog 7 #[.string (S (hdrL cl (M 0) t len k ++ rest) ++ more)] W fun r w' => r = .returned (.tuple #[.agg #[.int .i64 (cl : Int), .bool (M 0), .int .i64 (t : Int), .int .i64 (len : Int), .int .i64 ((2 + k : Nat) : Int)], .int .i64 0]) ∧ Below W.heap.size W w') := fun W => by
    have h1 := berHead_any (S (hdrL cl (M 0) t len k ++ rest) ++ more) W (by rw [ByteArray.size_append, hX]; have := HH.out.2.2.2.2; omega)
    rw [head_whole cl (M 0) t len k rest more hct.out.1 hct.out.2 hs] at h1
    exact h1
  have HH2 : Hid (∀ W (j : Nat), j < 2 + k + len → Calls Try.prog 7 #[.string ((S (hdrL cl (M 0) t len k ++ rest)).extract 0 j)] W fun r w' => r = .returned (if j < 2 + k then .tuple #[.agg #[.int .i64 0, .bool false, .int .i64 0, .int .i64 0, .int .i64 0], .int .i64 20] else .tuple #[.agg #[.int .i64 (cl : Int), .bool (M 0), .int .i64 (t : Int), .int .i64 (len : Int), .int .i64 ((2 + k : Nat) : Int)], .int .i64 0]) ∧ Below W.heap.size W w') := fun W j hj => by
    have h1 := berHead_any ((S (hdrL cl (M 0) t len k ++ rest)).extract 0 j) W (by rw [← size_l, take_l, S_l, List.length_take]; omega)
    rw [head_front cl (M 0) t len k rest j hct.out.1 hct.out.2 hs hr hj] at h1
    exact h1
  have hk4 : k ≤ 4 := by rcases hs with ⟨h, _⟩ | ⟨_, h, _⟩ <;> omega
  obtain ⟨X, hXX⟩ : ∃ X, X = S (hdrL cl (M 0) t len k ++ rest) := ⟨_, rfl⟩
  rw [← hXX] at hX HH1 HH2 ⊢
  obtain ⟨q, hq⟩ : ∃ q, q = 2 + k := ⟨_, rfl⟩
  rw [← hq] at HH1 HH2 hX
  have hq' : Hid (2 ≤ q ∧ q ≤ 6 ∧ q + len ≤ 67108864 ∧ X.size = q + len) := ⟨by omega, by omega, by omega, hX⟩
  clear hXX hq hk4 hbd hr hs hX HSp hb3
  have eq1 : ∀ W, (binOp .eql 29 (.agg #[.int .i64 (cl : Int), .bool (M 0), .int .i64 (t : Int), .int .i64 (len : Int), .int .i64 (q : Int)]) (.agg #[.int .i64 (cl : Int), .bool (M 0), .int .i64 (t : Int), .int .i64 (len : Int), .int .i64 (q : Int)])).run Try.prog W = .ok (.bool true) W := fun W => by rw [eq_hdr]; simp
  have eq2 : ∀ W, (binOp .eql 29 (.agg #[.int .i64 0, .bool false, .int .i64 0, .int .i64 0, .int .i64 0]) (.agg #[.int .i64 0, .bool false, .int .i64 0, .int .i64 0, .int .i64 0])).run Try.prog W = .ok (.bool true) W := fun W => by rw [eq_hdr]; simp
  clear hg' ho'
  have hXb : X.size + more.size ≤ 9223372036854775807 := by have := hq'.out; have := HH.out.2.2.2.2; omega
  have hXe : ¬ 9223372036854775807 < X.size + more.size := by omega
  go_wp2_with fail
  refine (HH1.out _).mono ?_
  rintro r w4 ⟨rfl, hb4⟩
  have HB4 : Hid (Below w.heap.size w w4) := HB3.out.trans (hb4.mono HB3.out.size)
  obtain ⟨b, off, rfl, c0, c1, c2, c3, c4⟩ := (HH.out.1.below HB4.out) 0 hpos.out
  rw [hcl] at c1
  rw [ht] at c3
  simp only [Nat.zero_mul, Nat.add_zero] at c0 c1 c2 c3 c4
  have bl : b < w4.heap.size := World.block_lt_of_cell? w4 _ c0
  have bn : ¬ b = w4.heap.size := by omega
  have al : ∀ (o : Obj) (j : Nat), (w4.alloc o).cell? ⟨b, j, none⟩ = w4.cell? ⟨b, j, none⟩ := fun o j => World.cell?_alloc_past _ _ _ bl
  have qq := hq'.out
  have qa : q ≤ 67108864 := by omega
  have qb : len ≤ 67108864 := by omega
  have xq : (X.size : Int) = (q : Int) + (len : Int) := by omega
  have q2 : ¬ (q : Int) < 2 := by omega
  have q6 : ¬ (6 : Int) < (q : Int) := by omega
  have wq := wr_two q len qa qb
  clear hXb hXe qa qb qq hcl ht HB3 hb4 HH1 HB2
  generalize M 0 = m0 at *
  have HBE : Hid (∀ o o' : Obj, Below w.heap.size w ((w4.alloc o).alloc o')) := fun o o' => (HB4.out.alloc HB4.out.size _).alloc (by have := HB4.out.size; simp; omega) _
  by_cases z1 : cut < 0
  · clear HH2
    go_wp2_with fail
    go_ret
    exact ⟨rfl, HBE.out _ _⟩
  by_cases z2 : (q : Int) + (len : Int) ≤ cut
  · clear HH2
    go_wp2_with fail
    go_ret
    exact ⟨rfl, HBE.out _ _⟩
  obtain ⟨j, rfl⟩ : ∃ j : Nat, cut = (j : Int) := ⟨cut.toNat, by omega⟩
  have j0 : (0 : Int) ≤ (j : Int) := Int.natCast_nonneg _
  have j1 : j < q + len := by omega
  have j2 : j ≤ X.size := by omega
  have j3 : (j : Int) ≤ (q : Int) + (len : Int) := by omega
  by_cases hjq : j < q
  · have HJ : Hid (∀ W, Calls Try.prog 7 #[.string (X.extract 0 j)] W fun r w' => r = .returned (.tuple #[.agg #[.int .i64 0, .bool false, .int .i64 0, .int .i64 0, .int .i64 0], .int .i64 20]) ∧ Below W.heap.size W w') := fun W => by
      have := HH2.out W j j1
      rw [if_pos hjq] at this
      exact this
    have j4 : (j : Int) < (q : Int) := by omega
    clear HH2 eq1 hjq j1
    go_wp2_with fail
    refine (HJ.out _).mono ?_
    rintro r w5 ⟨rfl, hb5⟩
    have HB5 : Hid (Below w.heap.size w w5) := (HBE.out _ _).trans (hb5.mono (HBE.out _ _).size)
    have hbx := ((Box.new w4 29 #[.int .i64 (cl : Int), .bool m0, .int .i64 (t : Int), .int .i64 (len : Int), .int .i64 (q : Int)]).past _).below hb5
    have e0 := (at_of (j := 0) hbx rfl).1
    have e1 := (at_of (j := 1) hbx rfl).1
    have e2 := (at_of (j := 2) hbx rfl).1
    have e3 := (at_of (j := 3) hbx rfl).1
    have e4 := (at_of (j := 4) hbx rfl).1
    have n1 : w4.heap.size < w5.heap.size := hbx.lt
    clear hbx hb5 HBE HB4 c0 c1 c2 c3 c4 bl bn al HJ
    go_wp2_with fail
    go_ret
    exact ⟨rfl, by first | exact HB5.out | exact HB5.out.alloc HB5.out.size _ | exact (HB5.out.alloc HB5.out.size _).alloc (by have := HB5.out.size; simp; omega) _⟩
  · have HJ : Hid (∀ W, Calls Try.prog 7 #[.string (X.extract 0 j)] W fun r w' => r = .returned (.tuple #[.agg #[.int .i64 (cl : Int), .bool m0, .int .i64 (t : Int), .int .i64 (len : Int), .int .i64 (q : Int)], .int .i64 0]) ∧ Below W.heap.size W w') := fun W => by
      have := HH2.out W j j1
      rw [if_neg hjq] at this
      exact this
    have j4 : ¬ (j : Int) < (q : Int) := by omega
    clear HH2 eq2 hjq j1
    go_wp2_with fail
    refine (HJ.out _).mono ?_
    rintro r w5 ⟨rfl, hb5⟩
    have HB5 : Hid (Below w.heap.size w w5) := (HBE.out _ _).trans (hb5.mono (HBE.out _ _).size)
    have hbx := ((Box.new w4 29 #[.int .i64 (cl : Int), .bool m0, .int .i64 (t : Int), .int .i64 (len : Int), .int .i64 (q : Int)]).past _).below hb5
    have e0 := (at_of (j := 0) hbx rfl).1
    have e1 := (at_of (j := 1) hbx rfl).1
    have e2 := (at_of (j := 2) hbx rfl).1
    have e3 := (at_of (j := 3) hbx rfl).1
    have e4 := (at_of (j := 4) hbx rfl).1
    have n1 : w4.heap.size < w5.heap.size := hbx.lt
    clear hbx hb5 HBE HB4 c0 c1 c2 c3 c4 bl bn al HJ
    go_wp2_with fail
    go_ret
    exact ⟨rfl, by first | exact HB5.out | exact HB5.out.alloc HB5.out.size _ | exact (HB5.out.alloc HB5.out.size _).alloc (by have := HB5.out.size; simp; omega) _⟩
end Go.Proofs.Ytndciaidalnljaa
