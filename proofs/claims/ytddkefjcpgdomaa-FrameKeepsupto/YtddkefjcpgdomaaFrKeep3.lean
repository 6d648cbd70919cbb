import Derived.Test.YtddkefjcpgdomaaFrKeep2
namespace Go.Proofs.Ytddkefjcpgdomaa
open Go.RowKit
open FrMath (Hdr lb bd within Out ends cut Cut)

theorem IsBodies.below {w w' : World} {a : Option Addr} {l : Nat} {F : Nat → Int} {X : Nat → ByteArray} (h : IsBodies w a l F X) (hb : Below w.heap.size w w') : IsBodies w' a l F X := fun i hi => by
  obtain ⟨b, off, e, h1, h2⟩ := h i hi
  exact ⟨b, off, e, by rw [hb.cell (World.block_lt_of_cell? w _ h1)]; exact h1, by rw [hb.cell (World.block_lt_of_cell? w _ h2)]; exact h2⟩
theorem two_app (w : ByteArray) (a b : UInt8) : w ++ (⟨#[a, b]⟩ : ByteArray) = (w ++ (⟨#[a]⟩ : ByteArray)) ++ (⟨#[b]⟩ : ByteArray) := by
  rw [← S_of (w ++ (⟨#[a, b]⟩ : ByteArray)), ← S_of ((w ++ (⟨#[a]⟩ : ByteArray)) ++ (⟨#[b]⟩ : ByteArray)), app_l, app_l, app_l]
  simp
theorem FSt.fresh {fb : Nat} {lim : Int} {W : World} {H : Nat} (hl : Cells W fb (frL lim 0 (.slice none 0 0) ⟨2, 2, 0⟩)) : FSt fb lim [] (.slice none 0 0) W H := by
  have e : Cut lim [] = ⟨[], 0, 0⟩ := Cut_nil lim
  refine ⟨fun _ => ?_, fun h => ?_, fun x hx => by cases hx⟩
  · rw [e]
    refine ⟨?_, ⟨rfl, Or.inl ⟨rfl, rfl⟩⟩, ?_⟩
    · show Cells W fb (frL lim 0 (.slice none 0 0) (FrMath.look lim []))
      rw [FrMath.look_nil]
      exact hl
    · show proper lim []
      unfold proper
      rw [FrMath.look_nil]
      simp
  · rw [e] at h
    exact absurd rfl h
section
variable {w0 : World} {B H fb gb : Nat} {lim : Int} {bf bg : List UInt8} {v u kv : Value} {kl ms : List Mk} {rows : List Rw} {W W' : World}
theorem KSt.setB {g cap : Nat} {l : List (List UInt8)} (s : KSt w0 B H fb gb lim bf bg v u kv kl ms ((g, cap, l) :: rows) W) (i : Nat) (x : ByteArray) : KSt w0 B H fb gb lim bf bg v u kv kl ms ((g, cap, l.set i x.data.toList) :: rows) (W.setCell ⟨g, i, none⟩ (.string x)) := by
  have h := s.set i x.data.toList
  rw [S_of] at h
  exact h
end
theorem push_two (w : World) {ops : Array Oper} {rest : List Oper} {o : Oper} {a : Act} {Q : Exit → Act → World → Prop} (hgd : o.guard = none) (s x : Operand)
    (ho : o.op = .call { callee := .builtin .append, args := #[s, x], argTypes := #[23, 23] }) (B g0 cap0 : Nat) (p q m : List UInt8) (Y : ByteArray) (g : Nat)
    (hs : a.eval s = .slice (some ⟨g0, 0, none⟩) 2 cap0) (hx : a.eval x = .slice (some ⟨g, 0, none⟩) 1 1) (hown : OwnS w B (.slice (some ⟨g0, 0, none⟩) 2 cap0) [p, q]) (hg : w.heap[g]? = some (.cells #[.string Y] 9 (0, 0))) (hY : S m = Y) (hB : B ≤ w.heap.size)
    (h : ∀ g' cap w', OwnS w' B (.slice (some ⟨g', 0, none⟩) 3 cap) [p, q, m] → (g' = g0 ∨ (g' = w.heap.size ∧ w'.heap[g0]? = w.heap[g0]?)) → (∀ b, b < w.heap.size → b ≠ g0 → w'.heap[b]? = w.heap[b]?) → Below B w w' → wpList Try.prog ops Q rest (a.put o.dst (.slice (some ⟨g', 0, none⟩) 3 cap)) w') :
    wpList Try.prog ops Q (o :: rest) a w := by
  subst hY
  exact push_text2 w hgd s x ho B g0 cap0 [p, q] m g hs hx hown hg hB (by simp) h
theorem word_conv (W : World) (i : Nat) (hi : i < 16777216) : ∃ wd : ByteArray, wd.size = 3 ∧ (convert 45 9 (.slice (some ⟨W.heap.size, 0, none⟩) 3 3)).run Try.prog (W.alloc (.cells #[.int .u8 ((i : Int) % 256), .int .u8 ((i : Int) / 256 % 256), .int .u8 ((i : Int) / 65536)] 5)) = .ok (.string wd) (W.alloc (.cells #[.int .u8 ((i : Int) % 256), .int .u8 ((i : Int) / 256 % 256), .int .u8 ((i : Int) / 65536)] 5)) := by
  have e0 : ((i : Int) % 256) = (((UInt8.ofNat (i % 256)).toNat : Nat) : Int) := by rw [u8_of _ (by omega)]; omega
  have e1 : ((i : Int) / 256 % 256) = (((UInt8.ofNat (i / 256 % 256)).toNat : Nat) : Int) := by rw [u8_of _ (by omega)]; omega
  have e2 : ((i : Int) / 65536) = (((UInt8.ofNat (i / 65536)).toNat : Nat) : Int) := by rw [u8_of _ (by omega)]; omega
  rw [e0, e1, e2]
  refine ⟨S [UInt8.ofNat (i % 256), UInt8.ofNat (i / 256 % 256), UInt8.ofNat (i / 65536)], by rw [S_size]; rfl, ?_⟩
  exact own_conv (B := W.heap.size) (l := [UInt8.ofNat (i % 256), UInt8.ofNat (i / 256 % 256), UInt8.ofNat (i / 65536)]) ⟨rfl, Or.inr ⟨W.heap.size, 3, _, rfl, Nat.le_refl _, heap_alloc_new W _, Nat.le_refl _, by unfold maxLen; omega, rfl, rfl⟩⟩
theorem byte_conv (W : World) (k : Nat) (hk : k < 2) : ∃ y : ByteArray, y.size = 1 ∧ (convert 45 9 (.slice (some ⟨W.heap.size, 0, none⟩) 1 1)).run Try.prog (W.alloc (.cells #[.int .u8 (115 + (k : Int))] 5)) = .ok (.string y) (W.alloc (.cells #[.int .u8 (115 + (k : Int))] 5)) := by
  have e0 : (115 + (k : Int)) = (((UInt8.ofNat (115 + k)).toNat : Nat) : Int) := by rw [u8_of _ (by omega)]; omega
  rw [e0]
  refine ⟨S [UInt8.ofNat (115 + k)], by rw [S_size]; rfl, ?_⟩
  exact own_conv (B := W.heap.size) (l := [UInt8.ofNat (115 + k)]) ⟨rfl, Or.inr ⟨W.heap.size, 1, _, rfl, Nat.le_refl _, heap_alloc_new W _, Nat.le_refl _, by unfold maxLen; omega, rfl, rfl⟩⟩
theorem ownM_form {w : World} {B : Nat} {v : Value} {l : List Mk} (h : OwnM w B v l) (h0 : 0 < l.length) : ∃ g cap, v = .slice (some ⟨g, 0, none⟩) l.length cap := by
  rcases h.2 with ⟨rfl, hn⟩ | ⟨g, cap, cur, rfl, _⟩
  · omega
  · exact ⟨g, cap, rfl⟩
theorem mvs_at (l : List Mk) (j r : Nat) (hj : j < l.length) (hr : r < 3) : (mvs l)[j * 3 + r]? = (mV l[j])[r]? := by
  induction l generalizing j with
  | nil => simp at hj
  | cons m l ih =>
    have e : mvs (m :: l) = mV m ++ mvs l := rfl
    have h3 : (mV m).length = 3 := rfl
    rw [e]
    cases j with
    | zero => rw [List.getElem?_append_left (by omega)]; simp
    | succ j =>
      rw [List.getElem?_append_right (by omega), h3, show (j + 1) * 3 + r - 3 = j * 3 + r by omega, ih j (by simpa using hj)]
      rfl
theorem ownM_cells {w : World} {B g cap : Nat} {l : List Mk} (h : OwnM w B (.slice (some ⟨g, 0, none⟩) l.length cap) l) (j : Nat) (hj : j < l.length) :
    w.cell? ⟨g, j * 3, none⟩ = some (.slice (some ⟨l[j].g, 0, none⟩) 2 l[j].c) ∧ w.cell? ⟨g, j * 3 + 1, none⟩ = some (.slice (some ⟨l[j].g2, 0, none⟩) 3 l[j].c2) ∧ w.cell? ⟨g, j * 3 + 2, none⟩ = some (.string l[j].wd) := by
  have hc := World.ownsRow.cells (show w.ownsRow B 48 3 (.slice (some ⟨g, 0, none⟩) l.length cap) l.length (mvs l) from h) (g := g) rfl
  have h0 := hc (j * 3 + 0) _ (mvs_at l j 0 hj (by omega))
  have h1 := hc (j * 3 + 1) _ (mvs_at l j 1 hj (by omega))
  have h2 := hc (j * 3 + 2) _ (mvs_at l j 2 hj (by omega))
  rw [add_j] at h0 h1 h2
  exact ⟨h0, h1, h2⟩

set_option maxRecDepth 100000 in
set_option maxHeartbeats 8000000 in
theorem frameKeeps_walk (a : Option Addr) (l c : Nat) (F : Nat → Int) (X : Nat → ByteArray) (w : World) (hi : IsBodies w a l F X) (htot : tot X l ≤ 1048576) :
    Calls Try.prog 7 #[.slice a l c] w fun e w' => e = .returned (.bool true) ∧ Below w.heap.size w w' := by
  have hl3 : 3 * l ≤ 1048576 := Nat.le_trans (tot_ge X l) htot
  have HN : ∀ W, Hid (Calls Try.prog 17 #[.int .i64 1048576] W fun e w' => ∃ fb, e = .returned (.pointer (some ⟨fb, 0, none⟩)) ∧ W.heap.size ≤ fb ∧ w'.heap.size = fb + 1 ∧ Cells w' fb (frL 1048576 0 (.slice none 0 0) ⟨2, 2, 0⟩) ∧ Below W.heap.size W w') := fun W => new_any 1048576 W
  go_enter Try.func7, Try.ntmps7
  go_wp2_with fail
  refine (HN _).out.mono ?_
  rintro e w1 ⟨fb, rfl, hf1, hn1, hC1, hb1⟩
  go_wp2_with fail
  refine (HN _).out.mono ?_
  rintro e w2 ⟨gb, rfl, hg1, hn2, hC2, hb2⟩
  have hfl : fb < w1.heap.size := hC1.lt
  have K0 : Hid (KSt w w.heap.size (gb + 1) fb gb 1048576 [] [] (.slice none 0 0) (.slice none 0 0) (.slice none 0 0) [] [] [] w2) := by
    refine ⟨FSt.fresh (hC1.of_block (hb2.block fb hfl)), FSt.fresh hC2, ownM_nil _ _, ⟨by omega, by omega, by omega, by omega, ?_, by omega⟩, fun x hx => (by cases hx), fun x hx => (by cases hx), fun x hx => (by cases hx), fun m hm => (by cases hm), fun m hm => (by cases hm), List.Pairwise.nil, hb1.trans (hb2.mono hb1.size)⟩
    have := hb1.size
    omega
  clear hC1 hC2 hb1 hb2 hf1 hn1 hg1 hn2 hfl HN
  go_wp2_with fail
  go_loopw [5, 6] (fun kv iv wr => ∃ (i : Nat) (b : List UInt8) (v u : Value) (ms : List Mk), i ≤ l ∧ iv = .int .i64 (i : Int) ∧ Hid (KSt w w.heap.size (gb + 1) fb gb 1048576 b b v u kv ms ms [] wr) ∧ Hid (allCut 1048576 b ∧ b.length ≤ 4 * tot X i ∧ ms.length = 4 * i ∧ ∀ m ∈ ms, m.wd.size ≤ 4096)) (fun _ iv _ => l - (intOf iv).toNat)
  case atStart => exact ⟨0, [], _, _, [], Nat.zero_le _, rfl, K0, ⟨allCut_nil _, Nat.le_refl _, rfl, fun m hm => (by cases hm)⟩⟩
  case round =>
    obtain ⟨i, b, v, u, ms, hil, rfl, K, hM⟩ := hrel
    clear K0
    by_cases hlt : i < l
    · obtain ⟨bb, off, rfl, hc1, hc2⟩ := (hi.below K.out.bel) i hlt
      have htl : tot X i + ((X i).size + 3) ≤ 1048576 := Nat.le_trans (tot_mono X (i + 1) l hlt) htot
      have i0 : (0 : Int) ≤ (i : Int) := Int.natCast_nonneg _
      have i1 : (i : Int) < (l : Int) := Int.ofNat_lt.2 hlt
      have hlt' : Hid (i < l) := hlt
      have htl' : Hid (tot X i + ((X i).size + 3) ≤ 1048576) := htl
      clear htl hlt
      go_upto_if 43 with fail
      go_cut [7] (fun t7 wx => ∃ t : ByteArray, t7 = .string t ∧ Hid (t.size ≤ 1000 ∧ t.size ≤ (X i).size) ∧ wx = wr)
      case first =>
        by_cases hbig : (X i).size ≤ 1000
        · have d1 : decide ((1000 : Int) < ((X i).size : Int)) = false := decide_eq_false (by omega)
          have hb' : Hid ((X i).size ≤ 1000) := hbig
          rw [d1]
          clear hbig d1
          go_wp2_with fail
          go_meet
          case rel => exact ⟨_, rfl, ⟨hb'.out, Nat.le_refl _⟩, rfl⟩
        · have d1 : decide ((1000 : Int) < ((X i).size : Int)) = true := decide_eq_true (by omega)
          have d2 : 1000 ≤ (X i).size := by omega
          have hs : Hid (((X i).extract 0 1000).size = 1000) := by unfold Hid; simp; omega
          rw [d1]
          clear hbig d1
          go_wp2_with fail
          go_meet
          case rel => exact ⟨_, rfl, ⟨by rw [hs.out]; exact Nat.le_refl _, by rw [hs.out]; exact d2⟩, rfl⟩
      case rest =>
        obtain ⟨t, rfl, ht, rfl⟩ := hcut
        have hc1' : wc.cell? ⟨bb, off + i * 2, none⟩ = some (.int .i64 (F i)) := hc1
        obtain ⟨M1, M2, HW1, HW2, hm1, hm2, hz1, hz2⟩ := two_msgs (F i) t ht.out.1
        have HW1' : ∀ W, Hid (Calls Try.prog 13 #[.int .i64 (F i), .string t] W fun r w' => r = .returned (.string M1) ∧ Below W.heap.size W w') := HW1
        have HW2' : ∀ W, Hid (Calls Try.prog 13 #[.int .i64 0, .string t] W fun r w' => r = .returned (.string M2) ∧ Below W.heap.size W w') := HW2
        have hmm : Hid ((isMsg M1.data.toList ∧ isMsg M2.data.toList) ∧ M1.size ≤ t.size + 6 ∧ M2.size ≤ t.size + 6) := ⟨⟨hm1, hm2⟩, hz1, hz2⟩
        clear HW1 HW2 hm1 hm2 hz1 hz2 hc1
        go_wp2_with fail
        refine (HW1' _).out.mono ?_
        rintro e w3 ⟨rfl, hb3⟩
        have K3 : Hid (KSt w w.heap.size (gb + 1) fb gb 1048576 b b v u u5 ms ms [] w3) := K.out.below hb3
        clear hb3 hc1' K
        go_wp2_with fail
        refine (HW2' _).out.mono ?_
        rintro e w4 ⟨rfl, hb4⟩
        have K4 : KSt w w.heap.size (gb + 1) fb gb 1048576 b b v u u5 ms ms [] w4 := K3.out.below hb4
        clear hb4 K3 HW1' HW2'
        obtain ⟨two, htwo⟩ : ∃ two, M1 ++ M2 = two := ⟨_, rfl⟩
        have htw : two.data.toList = M1.data.toList ++ M2.data.toList := by rw [← htwo, app_l]
        have htz : two.size = M1.size + M2.size := by rw [← htwo, ByteArray.size_append]
        have hzz := hmm.out.2
        have htt := ht.out
        have hcut2 := cut_two 1048576 b M1.data.toList M2.data.toList hM.out.1 ⟨hmm.out.1.1, by rw [size_l]; omega⟩ ⟨hmm.out.1.2, by rw [size_l]; omega⟩
        rw [← htw] at hcut2
        have hcutS : Cut 1048576 two.data.toList = ⟨[M1.data.toList, M2.data.toList], [M1.data.toList, M2.data.toList].flatten.length, 0⟩ := by
          rw [← cut_joined 1048576 [M1.data.toList, M2.data.toList] (fun m hm => by
            simp at hm
            rcases hm with rfl | rfl
            · exact ⟨hmm.out.1.1, by rw [size_l]; omega⟩
            · exact ⟨hmm.out.1.2, by rw [size_l]; omega⟩), htw]
          simp
        have HSp : ∀ W, Hid (Calls Try.prog 10 #[.int .i64 1048576, .string two] W fun r w' => ∃ g cap at_, r = .returned (.agg #[.slice (some ⟨g, 0, none⟩) 2 cap, .int .i64 at_, .int .i64 0]) ∧ OwnS w' W.heap.size (.slice (some ⟨g, 0, none⟩) 2 cap) [M1.data.toList, M2.data.toList] ∧ Below W.heap.size W w') := fun W => by
          refine (frameSplit_any 1048576 two W (by omega)).mono ?_
          rintro r w' ⟨⟨v, rfl, ho⟩, hb⟩
          rw [hcutS] at ho ⊢
          rcases ownS_form ho with ⟨_, h0⟩ | ⟨g, cap, rfl⟩
          · cases h0
          · exact ⟨g, cap, _, rfl, ho, hb⟩
        have hlen2 : b.length + two.data.toList.length ≤ 4194304 := by
          rw [size_l]
          have := hM.out.2.1
          have := htl'.out
          omega
        have hts : two.size ≤ 2012 := by omega
        obtain ⟨W5, cap5, hcv5, hbc5, hnc5, hck5, hcc5, hcap5⟩ := conv_chk w4 two (by omega)
        have K5 := K4.below hbc5
        have hlay := K4.lay
        have hF5 : Hid (Calls Try.prog 18 #[.pointer (some ⟨fb, 0, none⟩), .slice (some ⟨w4.heap.size, 0, none⟩) two.size cap5] W5 fun e w' => ∃ g cap v', e = .returned (.tuple #[.slice (some ⟨g, 0, none⟩) 2 cap, .int .i64 0]) ∧ KSt w w.heap.size (gb + 1) fb gb 1048576 (b ++ two.data.toList) b v' u u5 ms ms [(g, cap, [M1.data.toList, M2.data.toList])] w') := by
          have h := feed_fst fb 1048576 b two.data.toList v W5 (gb + 1) w4.heap.size cap5 K5.f K5.lay.2.2.2.2.2 (by omega) (by omega) (fun hh => by have := (K4.f.high _ hh).2; omega) hck5 (by rw [size_l]; exact hcc5) hcap5 hlen2
          rw [size_l] at h
          refine h.mono ?_
          rintro e w' ⟨mv, v', k, rfl, hmv, happ, hst, hfr, hkp, hap⟩
          rw [hcut2.1] at happ
          have hk : k = [M1.data.toList, M2.data.toList] := List.append_cancel_left happ
          subst hk
          rcases ownS_form hmv with ⟨_, h0⟩ | ⟨g, cap, rfl⟩
          · cases h0
          · refine ⟨g, cap, v', ?_, K5.feed hmv hst hfr hkp hap⟩
            rw [hcut2.2.1]
            rfl
        have hsz : Hid (two.size ≤ 2012 ∧ two.size ≤ 2 * t.size + 12) := ⟨hts, by omega⟩
        have z1 : M1.size ≤ 1006 := by omega
        have z2 : M2.size ≤ 1006 := by omega
        have htwoH : Hid (M1 ++ M2 = two ∧ M1.size ≤ 1006 ∧ M2.size ≤ 1006) := ⟨htwo, z1, z2⟩
        clear K5 hck5 hcc5 hcap5 hbc5 hnc5 K4 hlay htz htw hzz htt hts hcutS
        go_wp2_with fail
        refine hF5.out.mono ?_
        rintro e w6 ⟨g6, cap6, v6, rfl, K6⟩
        obtain ⟨W7, cap7, hcv7, hbc7, hnc7, hck7, hcc7, hcap7⟩ := conv_chk w6 two (by have := hsz.out.1; omega)
        have K7 := (K6.below hbc7).swap
        have hlay := K6.lay
        have hF7 : Hid (Calls Try.prog 18 #[.pointer (some ⟨gb, 0, none⟩), .slice (some ⟨w6.heap.size, 0, none⟩) two.size cap7] W7 fun e w' => ∃ g cap u', e = .returned (.tuple #[.slice (some ⟨g, 0, none⟩) 2 cap, .int .i64 0]) ∧ KSt w w.heap.size (gb + 1) fb gb 1048576 (b ++ two.data.toList) (b ++ two.data.toList) v6 u' u5 ms ms [(g, cap, [M1.data.toList, M2.data.toList]), (g6, cap6, [M1.data.toList, M2.data.toList])] w') := by
          have h := feed_fst gb 1048576 b two.data.toList u W7 (gb + 1) w6.heap.size cap7 K7.f K7.lay.2.2.2.2.2 (by omega) (by omega) (fun hh => by have := (K6.g.high _ hh).2; omega) hck7 (by rw [size_l]; exact hcc7) hcap7 hlen2
          rw [size_l] at h
          refine h.mono ?_
          rintro e w' ⟨mv, v', k, rfl, hmv, happ, hst, hfr, hkp, hap⟩
          rw [hcut2.1] at happ
          have hk : k = [M1.data.toList, M2.data.toList] := List.append_cancel_left happ
          subst hk
          rcases ownS_form hmv with ⟨_, h0⟩ | ⟨g, cap, rfl⟩
          · cases h0
          · refine ⟨g, cap, v', ?_, (K7.feed hmv hst hfr hkp hap).swap⟩
            rw [hcut2.2.1]
            rfl
        have hcut2' : Hid (allCut 1048576 (b ++ two.data.toList)) := hcut2.2
        clear K7 hck7 hcc7 hcap7 hbc7 hnc7 K6 hlay hF5 hcv5 hcut2
        go_wp2_with fail
        refine hF7.out.mono ?_
        rintro e w8 ⟨g8, cap8, u8', rfl, K8⟩
        clear hF7 hcv7
        have K8' : ∀ n, Hid (KSt w w.heap.size (gb + 1) fb gb 1048576 (b ++ two.data.toList) (b ++ two.data.toList) v6 u8' u5 ms ms [(g8, cap8, [M1.data.toList, M2.data.toList]), (g6, cap6, [M1.data.toList, M2.data.toList])] (w8.drewN n)) := fun n => K8.below (below_drewN (Below.refl _ _) n)
        have o8 : OwnS w8 (gb + 1) (.slice (some ⟨g8, 0, none⟩) 2 cap8) [M1.data.toList, M2.data.toList] := (K8.rw_ _ List.mem_cons_self).1
        have o6 : OwnS w8 (gb + 1) (.slice (some ⟨g6, 0, none⟩) 2 cap6) [M1.data.toList, M2.data.toList] := (K8.rw_ _ (List.mem_cons_of_mem _ List.mem_cons_self)).1
        have hsm : ∀ n, Hid (Calls Try.prog 15 #[.slice (some ⟨g6, 0, none⟩) 2 cap6, .slice (some ⟨g8, 0, none⟩) 2 cap8] (w8.drewN n) fun r w' => r = .returned (.bool true) ∧ ∃ m, w' = (w8.drewN n).drewN m) := fun n => same_drew [M1.data.toList, M2.data.toList] (gb + 1) (gb + 1) g6 g8 cap6 cap8 (w8.drewN n) (by simp) o6 o8
        have c60 : w8.cell? ⟨g6, 0, none⟩ = some (.string M1) := by rw [ownS_cell (l := [M1.data.toList, M2.data.toList]) o6 0 (by simp)]; simp [S_of]
        have c61 : w8.cell? ⟨g6, 1, none⟩ = some (.string M2) := by rw [ownS_cell (l := [M1.data.toList, M2.data.toList]) o6 1 (by simp)]; simp [S_of]
        clear o6 o8 K8
        go_wp2_with fail
        go_quiet ((go_at_call 15; exact Calls.quiet_of (hsm _).out))
        have K9 := K8' nq
        generalize w8.drewN nq = w9 at *
        clear K8' hsm c60 c61 z1 z2 htwo
        obtain ⟨wd, hwd, hcvw⟩ := word_conv w9 i (by have := hlt'.out; omega)
        obtain ⟨w10, hw10⟩ : ∃ w10, w9.alloc (.cells #[.int .u8 ((i : Int) % 256), .int .u8 ((i : Int) / 256 % 256), .int .u8 ((i : Int) / 65536)] 5) = w10 := ⟨_, rfl⟩
        rw [hw10] at hcvw
        obtain ⟨A, hA⟩ : ∃ A, wd ++ (⟨#[109]⟩ : ByteArray) = A := ⟨_, rfl⟩
        obtain ⟨Ax, hAx⟩ : ∃ Ax, wd ++ (⟨#[109, 120]⟩ : ByteArray) = Ax := ⟨_, rfl⟩
        obtain ⟨Ay, hAy⟩ : ∃ Ay, wd ++ (⟨#[109, 121]⟩ : ByteArray) = Ay := ⟨_, rfl⟩
        obtain ⟨N, hN⟩ : ∃ N, wd ++ (⟨#[110]⟩ : ByteArray) = N := ⟨_, rfl⟩
        obtain ⟨Nx', hNx⟩ : ∃ Nx', wd ++ (⟨#[110, 120]⟩ : ByteArray) = Nx' := ⟨_, rfl⟩
        obtain ⟨Ny, hNy⟩ : ∃ Ny, wd ++ (⟨#[110, 121]⟩ : ByteArray) = Ny := ⟨_, rfl⟩
        have hw : Hid (wd.size = 3 ∧ Ax = A ++ ⟨#[120]⟩ ∧ Ay = A ++ ⟨#[121]⟩ ∧ Nx' = N ++ ⟨#[120]⟩ ∧ Ny = N ++ ⟨#[121]⟩ ∧ A.size = 4 ∧ N.size = 4) := by
          refine ⟨hwd, ?_, ?_, ?_, ?_, ?_, ?_⟩
          · rw [← hAx, ← hA, two_app]
          · rw [← hAy, ← hA, two_app]
          · rw [← hNx, ← hN, two_app]
          · rw [← hNy, ← hN, two_app]
          · rw [← hA, ByteArray.size_append, hwd]; rfl
          · rw [← hN, ByteArray.size_append, hwd]; rfl
        have hwd3 : wd.size ≤ 3 := by omega
        obtain ⟨wa, hwa⟩ : ∃ wa, w10.setCell ⟨g6, 0, none⟩ (.string A) = wa := ⟨_, rfl⟩
        obtain ⟨wb, hwb⟩ : ∃ wb, wa.setCell ⟨g6, 1, none⟩ (.string Ax) = wb := ⟨_, rfl⟩
        obtain ⟨wc1, hwc⟩ : ∃ wc1, wb.setCell ⟨g8, 0, none⟩ (.string N) = wc1 := ⟨_, rfl⟩
        obtain ⟨wd1, hwd1⟩ : ∃ wd1, wc1.setCell ⟨g8, 1, none⟩ (.string Nx') = wd1 := ⟨_, rfl⟩
        obtain ⟨w11, hw11⟩ : ∃ w11, wd1.alloc (.cells #[.string Ay] 9) = w11 := ⟨_, rfl⟩
        have K10 := K9.out.below (show Below w9.heap.size w9 w10 by rw [← hw10]; exact (Below.refl _ _).alloc (Nat.le_refl _) _)
        have K10f := K10.flip
        have Ka := K10f.setB 0 A
        rw [hwa] at Ka
        have Kb := Ka.setB 1 Ax
        rw [hwb] at Kb
        have Kbf := Kb.flip
        have Kc := Kbf.setB 0 N
        rw [hwc] at Kc
        have Kd := Kc.setB 1 Nx'
        rw [hwd1] at Kd
        have K11 : Hid (KSt w w.heap.size (gb + 1) fb gb 1048576 (b ++ two.data.toList) (b ++ two.data.toList) v6 u8' u5 ms ms [(g6, cap6, [A.data.toList, Ax.data.toList]), (g8, cap8, [N.data.toList, Nx'.data.toList])] w11) := (Kd.below (show Below wd1.heap.size wd1 w11 by rw [← hw11]; exact (Below.refl _ _).alloc (Nat.le_refl _) _)).flip
        have rc : ∀ {W : World} {g cap : Nat} {x y : List UInt8} {rows : List Rw}, KSt w w.heap.size (gb + 1) fb gb 1048576 (b ++ two.data.toList) (b ++ two.data.toList) v6 u8' u5 ms ms ((g, cap, [x, y]) :: rows) W → W.cell? ⟨g, 0, none⟩ = some (.string (S x)) ∧ W.cell? ⟨g, 1, none⟩ = some (.string (S y)) ∧ W.frozen? ⟨g, 0, none⟩ = false ∧ W.frozen? ⟨g, 1, none⟩ = false := fun {W g cap x y rows} k => by
          have o : OwnS W (gb + 1) (.slice (some ⟨g, 0, none⟩) 2 cap) [x, y] := k.cut.2.1
          exact ⟨ownS_cell (l := [x, y]) o 0 (by simp), ownS_cell (l := [x, y]) o 1 (by simp), ownS_free o 0, ownS_free o 1⟩
        obtain ⟨p1, _, p2, _⟩ := rc K10f
        obtain ⟨_, p3, _, p4⟩ := rc (show KSt w w.heap.size (gb + 1) fb gb 1048576 (b ++ two.data.toList) (b ++ two.data.toList) v6 u8' u5 ms ms ((g6, cap6, [A.data.toList, M2.data.toList]) :: _) wa from Ka)
        obtain ⟨p5, _, p6, _⟩ := rc Kbf
        obtain ⟨_, p7, _, p8⟩ := rc (show KSt w w.heap.size (gb + 1) fb gb 1048576 (b ++ two.data.toList) (b ++ two.data.toList) v6 u8' u5 ms ms ((g8, cap8, [N.data.toList, M2.data.toList]) :: _) wc1 from Kc)
        have hg11 : Hid (w11.heap[wd1.heap.size]? = some (.cells #[.string Ay] 9 (0, 0))) := by unfold Hid; rw [← hw11]; exact heap_alloc_new wd1 _
        clear K10 K10f Ka Kb Kbf Kc Kd rc hwd
        go_upto_region 23 with (at_builtin; refine push_two _ rfl _ _ rfl (gb + 1) g6 cap6 A.data.toList Ax.data.toList Ay.data.toList Ay wd1.heap.size rfl rfl ?_ ?_ ?_ ?_ ?_; (exact K11.out.cut.2.1); (exact hg11.out); (exact S_of _); (exact K11.out.lay.2.2.2.2.2); intro g12 cap12 w12 o12 or12 hk12 hb12)
        have K12 : KSt w w.heap.size (gb + 1) fb gb 1048576 (b ++ two.data.toList) (b ++ two.data.toList) v6 u8' u5 ms (ms ++ [⟨g6, cap6, g12, cap12, A⟩]) [(g8, cap8, [N.data.toList, Nx'.data.toList])] w12 := K11.out.mark (S_of _) (by rw [S_of]; exact hw.out.2.1) (by rw [S_of]; exact hw.out.2.2.1) o12 or12 hk12 hb12
        obtain ⟨w13, hw13⟩ : ∃ w13, w12.alloc (.cells #[.string Ny] 9) = w13 := ⟨_, rfl⟩
        have K13 : Hid (KSt w w.heap.size (gb + 1) fb gb 1048576 (b ++ two.data.toList) (b ++ two.data.toList) v6 u8' u5 ms (ms ++ [⟨g6, cap6, g12, cap12, A⟩]) [(g8, cap8, [N.data.toList, Nx'.data.toList])] w13) := K12.below (by rw [← hw13]; exact (Below.refl _ _).alloc (Nat.le_refl _) _)
        have hg13 : Hid (w13.heap[w12.heap.size]? = some (.cells #[.string Ny] 9 (0, 0))) := by unfold Hid; rw [← hw13]; exact heap_alloc_new w12 _
        clear K12 K11 hg11 hw11 hwa hwb hwc hwd1 hw10 p1 p2 p3 p4 p5 p6 p7 p8 o12 or12 hk12 hb12 hcvw
        go_upto_region 24 with (at_builtin; refine push_two _ rfl _ _ rfl (gb + 1) g8 cap8 N.data.toList Nx'.data.toList Ny.data.toList Ny w12.heap.size rfl rfl ?_ ?_ ?_ ?_ ?_; (exact K13.out.cut.2.1); (exact hg13.out); (exact S_of _); (exact K13.out.lay.2.2.2.2.2); intro g14 cap14 w14 o14 or14 hk14 hb14)
        have K14 : KSt w w.heap.size (gb + 1) fb gb 1048576 (b ++ two.data.toList) (b ++ two.data.toList) v6 u8' u5 ms ((ms ++ [⟨g6, cap6, g12, cap12, A⟩]) ++ [⟨g8, cap8, g14, cap14, N⟩]) [] w14 := K13.out.mark (S_of _) (by rw [S_of]; exact hw.out.2.2.2.1) (by rw [S_of]; exact hw.out.2.2.2.2.1) o14 or14 hk14 hb14
        rw [List.append_assoc] at K14
        obtain ⟨w15, hw15⟩ : ∃ w15, w14.alloc (.cells #[.slice (some ⟨g6, 0, none⟩) 2 cap6, .slice (some ⟨g12, 0, none⟩) 3 cap12, .string A, .slice (some ⟨g8, 0, none⟩) 2 cap8, .slice (some ⟨g14, 0, none⟩) 3 cap14, .string N] 48) = w15 := ⟨_, rfl⟩
        have K15 : Hid (KSt w w.heap.size (gb + 1) fb gb 1048576 (b ++ two.data.toList) (b ++ two.data.toList) v6 u8' u5 ms (ms ++ ([⟨g6, cap6, g12, cap12, A⟩] ++ [⟨g8, cap8, g14, cap14, N⟩])) [] w15) := K14.below (by rw [← hw15]; exact (Below.refl _ _).alloc (Nat.le_refl _) _)
        have hc15 : Hid (∀ j x, (mvs [⟨g6, cap6, g12, cap12, A⟩, ⟨g8, cap8, g14, cap14, N⟩])[j]? = some x → w15.cell? ⟨w14.heap.size, j, none⟩ = some x) := fun j x hj => by
          rw [← hw15, Lib.cell_of_heap (heap_alloc_new w14 _) j, ← hj]
          show _ = ([_, _, _, _, _, _] : List Value)[j]?
          simp
        have hlm : Hid (ms.length + 2 ≤ 8388608) := by have := hM.out.2.2.1; have := hlt'.out; unfold Hid; omega
        clear K14 K13 hg13 hw13 o14 or14 hk14 hb14
        go_upto_region 25 with (at_builtin; refine push_marks _ rfl _ _ rfl (gb + 1) u5 ms [⟨g6, cap6, g12, cap12, A⟩, ⟨g8, cap8, g14, cap14, N⟩] w14.heap.size 2 rfl rfl rfl (Nat.zero_lt_succ _) ?_ ?_ ?_ ?_ ?_; (exact K15.out.k); (exact hc15.out); (exact K15.out.lay.2.2.2.2.2); (exact hlm.out); intro k16 w16 o16 bk16 fr16 hb16)
        have K16 : Hid (KSt w w.heap.size (gb + 1) fb gb 1048576 (b ++ two.data.toList) (b ++ two.data.toList) v6 u8' k16 (ms ++ [⟨g6, cap6, g12, cap12, A⟩, ⟨g8, cap8, g14, cap14, N⟩]) (ms ++ [⟨g6, cap6, g12, cap12, A⟩, ⟨g8, cap8, g14, cap14, N⟩]) [] w16) := K15.out.push o16 bk16 fr16 hb16
        obtain ⟨M0, hM0⟩ : ∃ M0, ms ++ ([⟨g6, cap6, g12, cap12, A⟩, ⟨g8, cap8, g14, cap14, N⟩] : List Mk) = M0 := ⟨_, rfl⟩
        rw [hM0] at K16
        have hM0' : Hid (M0.length = ms.length + 2 ∧ ∀ m ∈ M0, m.wd.size ≤ 4096) := by
          refine ⟨by rw [← hM0]; simp, fun m hm => ?_⟩
          rw [← hM0] at hm
          rcases List.mem_append.1 hm with h | h
          · exact hM.out.2.2.2 m h
          · simp at h
            rcases h with rfl | rfl
            · show A.size ≤ 4096; have := hw.out.2.2.2.2.2.1; omega
            · show N.size ≤ 4096; have := hw.out.2.2.2.2.2.2; omega
        have hw3 : Hid (wd.size = 3) := hw.out.1
        clear K15 hc15 hw15 o16 bk16 fr16 hb16 hM0 hlm hw hA hAx hAy hN hNx hNy
        go_wp2_with fail
        go_loopw [5, 16] (fun kv kn wr => ∃ (k : Nat) (M : List Mk), k ≤ 2 ∧ kn = .int .i64 (k : Int) ∧ Hid (KSt w w.heap.size (gb + 1) fb gb 1048576 (b ++ two.data.toList) (b ++ two.data.toList) v6 u8' kv M M [] wr) ∧ Hid (M.length = ms.length + 2 + k ∧ ∀ m ∈ M, m.wd.size ≤ 4096)) (fun _ kn _ => 2 - (intOf kn).toNat)
        case atStart => exact ⟨0, M0, Nat.zero_le _, rfl, K16, hM0'⟩
        case round =>
          obtain ⟨k, M, hk2, rfl, KI, hMI⟩ := hrel
          clear K16 hM0'
          by_cases hk : k < 2
          · have k0 : (0 : Int) ≤ (k : Int) := Int.natCast_nonneg _
            have k1 : (k : Int) < 2 := by omega
            have hk' : Hid (k < 2) := hk
            clear hk hk2
            go_wp2_with fail
            refine (HSp _).out.mono ?_
            rintro e w17 ⟨g17, cap17, at17, rfl, o17, hb17⟩
            have K17 := (KI.out.below hb17).put (g17, cap17, [M1.data.toList, M2.data.toList]) (ownS_base o17 KI.out.lay.2.2.2.2.2) (KI.out.fresh (ownS_lt o17 rfl).1)
            replace K17 : Hid (KSt w w.heap.size (gb + 1) fb gb 1048576 (b ++ two.data.toList) (b ++ two.data.toList) v6 u8' u5 M M [(g17, cap17, [M1.data.toList, M2.data.toList])] w17) := K17
            clear o17 hb17
            go_upto_region 29 with fail
            obtain ⟨w18, hw18⟩ : ∃ w18, w17.alloc (.cells #[.slice (some ⟨g17, 0, none⟩) 2 cap17, .int .i64 at17, .int .i64 0] 26) = w18 := ⟨_, rfl⟩
            rw [hw18]
            have K18 := K17.out.below (show Below w17.heap.size w17 w18 by rw [← hw18]; exact (Below.refl _ _).alloc (Nat.le_refl _) _)
            have q0 : w18.cell? ⟨w17.heap.size, 0, none⟩ = some (.slice (some ⟨g17, 0, none⟩) 2 cap17) := by rw [← hw18]; simp [go_sem]
            have q2 : w18.cell? ⟨w17.heap.size, 2, none⟩ = some (.int .i64 0) := by rw [← hw18]; simp [go_sem]
            have o18 : OwnS w18 (gb + 1) (.slice (some ⟨g17, 0, none⟩) 2 cap17) [M1.data.toList, M2.data.toList] := K18.cut.2.1
            have c0 : w18.cell? ⟨g17, 0, none⟩ = some (.string M1) := by rw [ownS_cell (l := [M1.data.toList, M2.data.toList]) o18 0 (by simp)]; simp [S_of]
            have c1 : w18.cell? ⟨g17, 1, none⟩ = some (.string M2) := by rw [ownS_cell (l := [M1.data.toList, M2.data.toList]) o18 1 (by simp)]; simp [S_of]
            have K18' : ∀ n, Hid (KSt w w.heap.size (gb + 1) fb gb 1048576 (b ++ two.data.toList) (b ++ two.data.toList) v6 u8' u5 M M [(g17, cap17, [M1.data.toList, M2.data.toList])] (w18.drewN n)) := fun n => K18.below (below_drewN (Below.refl _ _) n)
            obtain ⟨htwo, z1, z2⟩ := htwoH.out
            clear K18 K17 o18 hw18
            go_wp2_with fail
            go_quiet (fail)
            have K19 := K18' nq
            generalize w18.drewN nq = w19 at *
            clear K18' c0 c1 q0 q2 htwo z1 z2
            obtain ⟨y, hy1, hcvy⟩ := byte_conv w19 k hk'.out
            obtain ⟨w20, hw20⟩ : ∃ w20, w19.alloc (.cells #[.int .u8 (115 + (k : Int))] 5) = w20 := ⟨_, rfl⟩
            rw [hw20] at hcvy
            obtain ⟨D, hD⟩ : ∃ D, wd ++ y = D := ⟨_, rfl⟩
            obtain ⟨Dx, hDx⟩ : ∃ Dx, D ++ (⟨#[120]⟩ : ByteArray) = Dx := ⟨_, rfl⟩
            obtain ⟨Dy, hDy⟩ : ∃ Dy, D ++ (⟨#[121]⟩ : ByteArray) = Dy := ⟨_, rfl⟩
            have hDs : Hid (D.size = 4 ∧ Dx = D ++ ⟨#[120]⟩ ∧ Dy = D ++ ⟨#[121]⟩) := ⟨by rw [← hD, ByteArray.size_append, hy1, hw3.out], hDx.symm, hDy.symm⟩
            have hy2 : y.size ≤ 1 := by omega
            have hD4 : D.size ≤ 4 := by have := hDs.out.1; omega
            obtain ⟨wa, hwa⟩ : ∃ wa, w20.setCell ⟨g17, 0, none⟩ (.string D) = wa := ⟨_, rfl⟩
            obtain ⟨wb, hwb⟩ : ∃ wb, wa.setCell ⟨g17, 1, none⟩ (.string Dx) = wb := ⟨_, rfl⟩
            obtain ⟨w21, hw21⟩ : ∃ w21, wb.alloc (.cells #[.string Dy] 9) = w21 := ⟨_, rfl⟩
            have K20 := K19.out.below (show Below w19.heap.size w19 w20 by rw [← hw20]; exact (Below.refl _ _).alloc (Nat.le_refl _) _)
            have Ka := K20.setB 0 D
            rw [hwa] at Ka
            have Kb := Ka.setB 1 Dx
            rw [hwb] at Kb
            have K21 : Hid (KSt w w.heap.size (gb + 1) fb gb 1048576 (b ++ two.data.toList) (b ++ two.data.toList) v6 u8' u5 M M [(g17, cap17, [D.data.toList, Dx.data.toList])] w21) := Kb.below (show Below wb.heap.size wb w21 by rw [← hw21]; exact (Below.refl _ _).alloc (Nat.le_refl _) _)
            have o20 : OwnS w20 (gb + 1) (.slice (some ⟨g17, 0, none⟩) 2 cap17) [M1.data.toList, M2.data.toList] := K20.cut.2.1
            have oa : OwnS wa (gb + 1) (.slice (some ⟨g17, 0, none⟩) 2 cap17) [D.data.toList, M2.data.toList] := Ka.cut.2.1
            have p1 := ownS_cell (l := [M1.data.toList, M2.data.toList]) o20 0 (by simp)
            have p2 := ownS_free o20 0
            have p3 := ownS_cell (l := [D.data.toList, M2.data.toList]) oa 1 (by simp)
            have p4 := ownS_free oa 1
            have hg21 : Hid (w21.heap[wb.heap.size]? = some (.cells #[.string Dy] 9 (0, 0))) := by unfold Hid; rw [← hw21]; exact heap_alloc_new wb _
            clear K19 K20 Ka Kb o20 oa hy1
            go_upto_region 36 with (at_builtin; refine push_two _ rfl _ _ rfl (gb + 1) g17 cap17 D.data.toList Dx.data.toList Dy.data.toList Dy wb.heap.size rfl rfl ?_ ?_ ?_ ?_ ?_; (exact K21.out.cut.2.1); (exact hg21.out); (exact S_of _); (exact K21.out.lay.2.2.2.2.2); intro g22 cap22 w22 o22 or22 hk22 hb22)
            have K22 : KSt w w.heap.size (gb + 1) fb gb 1048576 (b ++ two.data.toList) (b ++ two.data.toList) v6 u8' u5 M (M ++ [⟨g17, cap17, g22, cap22, D⟩]) [] w22 := K21.out.mark (S_of _) (by rw [S_of]; exact hDs.out.2.1) (by rw [S_of]; exact hDs.out.2.2) o22 or22 hk22 hb22
            obtain ⟨w23, hw23⟩ : ∃ w23, w22.alloc (.cells #[.slice (some ⟨g17, 0, none⟩) 2 cap17, .slice (some ⟨g22, 0, none⟩) 3 cap22, .string D] 48) = w23 := ⟨_, rfl⟩
            have K23 : Hid (KSt w w.heap.size (gb + 1) fb gb 1048576 (b ++ two.data.toList) (b ++ two.data.toList) v6 u8' u5 M (M ++ [⟨g17, cap17, g22, cap22, D⟩]) [] w23) := K22.below (by rw [← hw23]; exact (Below.refl _ _).alloc (Nat.le_refl _) _)
            have hc23 : Hid (∀ j x, (mvs [⟨g17, cap17, g22, cap22, D⟩])[j]? = some x → w23.cell? ⟨w22.heap.size, j, none⟩ = some x) := fun j x hj => by
              rw [← hw23, Lib.cell_of_heap (heap_alloc_new w22 _) j, ← hj]
              show _ = ([_, _, _] : List Value)[j]?
              simp
            have hlm : Hid (M.length + 1 ≤ 8388608) := by have := hM.out.2.2.1; have := hlt'.out; have := hMI.out.1; have := hk'.out; unfold Hid; omega
            clear K22 K21 hg21 hw21 hwa hwb hw20 p1 p2 p3 p4 o22 or22 hk22 hb22 hcvy hD hDx hDy
            go_wp2_with (at_builtin; refine push_marks _ rfl _ _ rfl (gb + 1) u5 M [⟨g17, cap17, g22, cap22, D⟩] w22.heap.size 1 rfl rfl rfl (Nat.zero_lt_succ _) ?_ ?_ ?_ ?_ ?_; (exact K23.out.k); (exact hc23.out); (exact K23.out.lay.2.2.2.2.2); (exact hlm.out); intro k24 w24 o24 bk24 fr24 hb24)
            have K24 : Hid (KSt w w.heap.size (gb + 1) fb gb 1048576 (b ++ two.data.toList) (b ++ two.data.toList) v6 u8' k24 (M ++ [⟨g17, cap17, g22, cap22, D⟩]) (M ++ [⟨g17, cap17, g22, cap22, D⟩]) [] w24) := K23.out.push o24 bk24 fr24 hb24
            have hM24 : Hid ((M ++ ([⟨g17, cap17, g22, cap22, D⟩] : List Mk)).length = ms.length + 2 + (k + 1) ∧ ∀ m ∈ M ++ ([⟨g17, cap17, g22, cap22, D⟩] : List Mk), m.wd.size ≤ 4096) := by
              refine ⟨by rw [List.length_append, hMI.out.1]; simp; omega, fun m hm => ?_⟩
              rcases List.mem_append.1 hm with h | h
              · exact hMI.out.2 m h
              · obtain rfl := List.mem_singleton.1 h
                show D.size ≤ 4096
                have := hDs.out.1
                omega
            refine ⟨⟨k + 1, _, hk'.out, by simp, K24, hM24⟩, ?_⟩
            have := hk'.out
            simp [intOf]
            omega
          · have hke : k = 2 := by omega
            subst hke
            have hML := hMI.out.1
            obtain ⟨gk, capk, rfl⟩ := ownM_form KI.out.k (by omega)
            have hMl : Hid (M.length = 4 * (i + 1)) := by have := hM.out.2.2.1; unfold Hid; omega
            have hMb : M.length ≤ 8388608 := by have := hMl.out; have := hlt'.out; omega
            clear hML hk hk2
            go_wp2_with fail
            go_loopw [21] (fun jv wr => ∃ j : Nat, j ≤ M.length ∧ jv = .int .i64 (j : Int) ∧ Hid (KSt w w.heap.size (gb + 1) fb gb 1048576 (b ++ two.data.toList) (b ++ two.data.toList) v6 u8' (.slice (some ⟨gk, 0, none⟩) M.length capk) M M [] wr)) (fun jv _ => M.length - (intOf jv).toNat)
            case atStart => exact ⟨0, Nat.zero_le _, rfl, KI⟩
            case round =>
              obtain ⟨j, hj, rfl, KJ⟩ := hrel
              clear KI
              by_cases hjl : j < M.length
              · obtain ⟨e0, e1, e2⟩ := ownM_cells KJ.out.k j hjl
                obtain ⟨m, hm⟩ : ∃ m, M[j] = m := ⟨_, rfl⟩
                have hmm' : m ∈ M := by rw [← hm]; exact List.getElem_mem _
                rw [hm] at e0 e1 e2
                have hwh : Hid (Calls Try.prog 19 #[.agg #[.slice (some ⟨m.g, 0, none⟩) 2 m.c, .slice (some ⟨m.g2, 0, none⟩) 3 m.c2, .string m.wd]] _ fun e w' => e = .returned (.bool true) ∧ Below _ _ w') := whole_any _ m.wd _ (KJ.out.mks m hmm').1.mark (hMI.out.2 m hmm')
                have j0 : (0 : Int) ≤ (j : Int) := Int.natCast_nonneg _
                have j1 : (j : Int) < (M.length : Int) := Int.ofNat_lt.2 hjl
                have hjl' : Hid (j < M.length) := hjl
                clear hm hmm' hjl hj
                go_wp2_with fail
                refine hwh.out.mono ?_
                rintro e w30 ⟨rfl, hb30⟩
                have K30 : Hid (KSt w w.heap.size (gb + 1) fb gb 1048576 (b ++ two.data.toList) (b ++ two.data.toList) v6 u8' (.slice (some ⟨gk, 0, none⟩) M.length capk) M M [] w30) := KJ.out.below hb30
                clear hb30 KJ e0 e1 e2 hwh
                go_wp2_with fail
                refine ⟨⟨_, _, _, _, _, _, _, _, _, _, _, _, _, _, ⟨j + 1, hjl'.out, by simp, K30⟩, rfl⟩, ?_⟩
                have := hjl'.out
                simp [intOf]
                omega
              · have hje : j = M.length := by omega
                subst hje
                clear hjl hj
                have hfin : Hid (allCut 1048576 (b ++ two.data.toList) ∧ (b ++ two.data.toList).length ≤ 4 * tot X (i + 1) ∧ M.length = 4 * (i + 1) ∧ ∀ m ∈ M, m.wd.size ≤ 4096) := by
                  refine ⟨hcut2'.out, ?_, hMl.out, hMI.out.2⟩
                  rw [List.length_append, size_l]
                  have := hM.out.2.1
                  have := hsz.out.2
                  have := ht.out.2
                  show b.length + two.size ≤ 4 * (tot X i + ((X i).size + 3))
                  omega
                go_wp2_with fail
                go_roundw
                case rel => exact ⟨i + 1, _, _, _, M, hlt'.out, by simp, KJ, hfin⟩
                case measure => have := hlt'.out; simp [intOf]; omega
    · have hke : i = l := by omega
      subst hke
      clear hlt hil
      go_wp2_with fail
      go_ret
      exact ⟨rfl, K.out.bel⟩
end Go.Proofs.Ytddkefjcpgdomaa
