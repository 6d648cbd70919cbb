import Derived.Test.YtddkefjcpgdomabFrCutsM
import Derived.Test.YtddkefjcpgdomabFrWrap2
import Derived.Test.YtddkefjcpgdomabFrm10
namespace Go.Proofs.Ytddkefjcpgdomab
open Go.RowKit
open FrMath (Hdr lb bd within Out ends cut Cut)

/-- A row of texts that came in. -/
def IsStrs (w : World) (a : Option Addr) (len : Nat) : Prop := ∀ i, i < len → ∃ b off s, a = some ⟨b, off, none⟩ ∧ w.cell? ⟨b, off + i, none⟩ = some (.string s)
theorem IsStrs.below {w w' : World} {a : Option Addr} {len : Nat} (h : IsStrs w a len) (hb : Below w.heap.size w w') : IsStrs w' a len := fun i hi => by
  obtain ⟨b, off, s, e, h1⟩ := h i hi
  refine ⟨b, off, s, e, ?_⟩
  rw [hb.cell (World.block_lt_of_cell? w _ h1)]
  exact h1
theorem own_byte (W : World) (f : UInt8) : (convert 30 9 (.slice (some ⟨W.heap.size, 0, none⟩) 1 1)).run Try.prog (W.alloc (.cells #[.int .u8 (f.toNat : Int)] 5)) = .ok (.string (S [f])) (W.alloc (.cells #[.int .u8 (f.toNat : Int)] 5)) :=
  own_conv (B := W.heap.size) (l := [f]) ⟨rfl, Or.inr ⟨W.heap.size, 1, #[.int .u8 (f.toNat : Int)], rfl, Nat.le_refl _, heap_alloc_new W _, Nat.le_refl _, by unfold maxLen; omega, rfl, rfl⟩⟩
theorem byte_of (b : Int) : ∃ c : UInt8, IntKind.u8.wrap b = (c.toNat : Int) := by
  refine ⟨UInt8.ofNat (b % 256).toNat, ?_⟩
  have h0 := Int.emod_nonneg b (b := 256) (by omega)
  have h1 := Int.emod_lt_of_pos b (b := 256) (by omega)
  rw [u8_of _ (by omega)]
  show b % 256 = _
  omega

/-- What the stream with a wrong byte behind it gives. -/
theorem cut_ends (lim : Int) (k n : Nat) (t : List UInt8) (c : UInt8) (hk : okHd k n) (ht : t.length = n) (hl : ((2 + k + n : Nat) : Int) ≤ lim) (hc : c.toNat ≠ 48) : Cut lim ((hd k n ++ t) ++ [c]) = ⟨[hd k n ++ t], 2 + k + n, 30⟩ := by
  have hlen : (hd k n ++ t).length = 2 + k + n := by rw [List.length_append, hd_len, ht]
  have hw : FrMath.look lim (hd k n ++ t) = ⟨0, (hd k n ++ t).length, 0⟩ := by
    rw [look_hd lim k n t hk, hlen]
    unfold FrMath.within
    rw [if_neg (by omega)]
  rw [cut_whole hw, hlen]
  have he : FrMath.look lim [c] = ⟨0, 0, 30⟩ := by
    unfold FrMath.look
    rw [if_neg (by simp), if_pos (by show c.toNat ≠ 48; exact hc)]
  rw [FrMath.Cut_end lim [c] (Or.inl (by rw [he]; decide)), he]
  rfl

set_option maxRecDepth 100000 in
set_option maxHeartbeats 1000000 in
theorem ends_core (limit lim bad : Int) (first t M : ByteArray) (c0 c : UInt8) (a : Option Addr) (l cp : Nat) (w : World) (hi : IsStrs w a l) (hl63 : l ≤ 9223372036854775807)
    (HS : ∀ W, Calls Try.prog 8 #[.string first] W fun r w' => r = .returned (.string t) ∧ W = w') (HW : ∀ W, Calls Try.prog 7 #[.int .i64 0, .string t] W fun r w' => r = .returned (.string M) ∧ Below W.heap.size W w')
    (hM : M.size ≤ 5000) (hcut : Cut lim (M.data.toList ++ [c]) = ⟨[M.data.toList], M.size, 30⟩)
    (hlim : (decide (limit < (M.size : Int)) = true ∧ lim = (M.size : Int)) ∨ (decide (limit < (M.size : Int)) = false ∧ limit = lim)) (hb : IntKind.u8.wrap bad = (c0.toNat : Int)) (hc : (((c0.toNat : Int) == 48) = true ∧ c = 49) ∨ (((c0.toNat : Int) == 48) = false ∧ c0 = c)) :
    Calls Try.prog 3 #[.int .i64 limit, .string first, .int .i64 bad, .slice a l cp] w fun e w' => e = .returned (.bool true) ∧ Below w.heap.size w w' := by
  have HN : ∀ W, Hid (Calls Try.prog 9 #[.int .i64 lim] W fun e w' => ∃ fb, e = .returned (.pointer (some ⟨fb, 0, none⟩)) ∧ W.heap.size ≤ fb ∧ w'.heap.size = fb + 1 ∧ Cells w' fb (frL lim 0 (.slice none 0 0) ⟨2, 2, 0⟩) ∧ Below W.heap.size W w') := fun W => new_any lim W
  have hY : Hid (S M.data.toList = M) := S_of M
  obtain ⟨Z, hZ⟩ : ∃ Z, M ++ S [c] = Z := ⟨_, rfl⟩
  have hZl : Z.data.toList = M.data.toList ++ [c] := by rw [← hZ, app_l, S_l]
  have hZe : Z.size = Z.data.toList.length := (size_l Z).symm
  have hZs : Hid (Z.size ≤ 5001 ∧ Z.size = Z.data.toList.length) := by
    unfold Hid
    refine ⟨?_, hZe⟩
    rw [hZe, hZl, List.length_append, size_l]
    show M.size + 1 ≤ 5001
    omega
  have hSs : (S [c]).size = 1 := by rw [S_size]; rfl
  have hcutZ : Hid (Cut lim ([] ++ Z.data.toList) = ⟨[M.data.toList], M.size, 30⟩) := by unfold Hid; rw [List.nil_append, hZl]; exact hcut
  clear hcut hZl hZe
  rcases hlim with ⟨d1, rfl⟩ | ⟨d1, rfl⟩
  all_goals
    rcases hc with ⟨d2, rfl⟩ | ⟨d2, rfl⟩
  · go_enter Try.func3, Try.ntmps3
    go_wp2_with fail
    refine (HS _).mono ?_
    rintro r w1 ⟨rfl, rfl⟩
    go_wp2_with fail
    refine (HW _).mono ?_
    rintro r w1 ⟨rfl, HB1⟩
    go_wp2_with fail
    refine (HN _).out.mono ?_
    rintro e w2 ⟨fb, rfl, hfb1, hfb2, hCf, hb2⟩
    have HB2 : Below w.heap.size w w2 := HB1.trans (hb2.mono HB1.size)
    have hwn : w.heap.size ≤ w1.heap.size := HB1.size
    have hcv1 : (convert 30 9 (.slice (some ⟨w2.heap.size, 0, none⟩) 1 1)).run Try.prog (w2.alloc (.cells #[.int .u8 49] 5)) = .ok (.string (S [(49 : UInt8)])) (w2.alloc (.cells #[.int .u8 49] 5)) := own_byte w2 (49 : UInt8)
    have hfbl : fb < w2.heap.size := by omega
    clear hfb2
    obtain ⟨W3, cap, hcv2, hb3, hn3, hck3, hcc3, hcap3⟩ := conv_chk (w2.alloc (.cells #[.int .u8 49] 5)) Z (by have := hZs.out; omega)
    have hn2 : (w2.alloc (.cells #[.int .u8 49] 5)).heap.size = w2.heap.size + 1 := by simp
    have hC3 : Cells W3 fb (frL (M.size : Int) 0 (.slice none 0 0) (FrMath.look (M.size : Int) [])) := (hCf.of_block (Below.heap_alloc _ _ _ hfbl)).of_block (hb3.block fb (by omega))
    have hFd : Hid (Calls Try.prog 10 #[.pointer (some ⟨fb, 0, none⟩), .slice (some ⟨w2.heap.size + 1, 0, none⟩) Z.size cap] W3 fun e w' => FeedQ fb (M.size : Int) 0 (.slice none 0 0) [] Z.data.toList W3 e w') := by
      have h := feed_any fb (M.size : Int) 0 (.slice none 0 0) [] Z.data.toList W3 (w2.heap.size + 1) 0 cap hC3 ⟨rfl, Or.inl ⟨rfl, rfl⟩⟩ (proper_nil _) (by omega) (by omega) (by intro hh; cases hh) (by rw [← hn2]; exact hck3) (by rw [← hZs.out.2]; exact hcc3) hcap3 (by have := hZs.out; simp; omega) (by omega)
      rw [← hZs.out.2] at h
      exact h
    have HB3 : Below w.heap.size w W3 := (HB2.alloc HB2.size _).trans (hb3.mono (by omega))
    clear hck3 hcc3 hcap3 hC3 hCf hb3 hb2 HB2 HB1 HN HS HW
    rw [hn2] at hcv2
    clear hn2
    go_wp2_with fail
    refine hFd.out.mono ?_
    intro e w4 hq
    unfold FeedQ at hq
    rw [hcutZ.out] at hq
    obtain ⟨mv, v4, rfl, hms, hfr, hkp, _, _, hbad⟩ := hq
    obtain ⟨hC4, ho4⟩ := hbad (by simp)
    simp only at hms hC4
    have HB4 : Below w.heap.size w w4 := HB3.trans (hkp.1.mono (by omega))
    rcases ownS_form hms with ⟨_, hc⟩ | ⟨gm, mcap, rfl⟩
    · cases hc
    have hc0 : w4.cell? ⟨gm, 0, none⟩ = some (.string M) := ownS_one hms hY.out
    have hC4' : Hid (Cells w4 fb (frL (M.size : Int) (0 + M.size) v4 ⟨0, 0, 30⟩)) := hC4
    have ho4' : Hid (Own w4 (fb + 1) v4 []) := ho4
    have hfw : Hid (w.heap.size ≤ fb) := by unfold Hid; omega
    clear hFd hcv1 hcv2 hms hfr hkp hbad hcutZ HB3 hC4 ho4 hwn hfb1 hfbl hn3
    go_wp2_with fail
    go_loopw [14] (fun iv wr => ∃ (i : Nat), i ≤ l ∧ iv = .int .i64 (i : Int) ∧ Hid (Cells wr fb (frL (M.size : Int) (0 + M.size) v4 ⟨0, 0, 30⟩)) ∧ Hid (Own wr (fb + 1) v4 []) ∧ Below w.heap.size w wr) (fun iv _ => l - (intOf iv).toNat)
    case atStart => exact ⟨0, Nat.zero_le _, rfl, hC4', ho4', HB4⟩
    case round =>
      obtain ⟨i, hil, rfl, hC, ho, HB⟩ := hrel
      clear hC4' ho4' HB4 hc0
      by_cases hlt : i < l
      · obtain ⟨b, off, s, rfl, hcell⟩ := (hi.below HB) i hlt
        obtain ⟨W5, cap5, hcv5, hb5, hn5, _⟩ := conv_bytes (P := Try.prog) wr 9 30 5 s Try.underlying9 Try.underlying30 Try.underlying5
        have hfl : fb < wr.heap.size := hC.out.lt
        have hC5 : Cells W5 fb (frL (M.size : Int) (0 + M.size) v4 ⟨0, 0, 30⟩) := hC.out.of_block (hb5.block fb hfl)
        have ho5 : Own W5 (fb + 1) v4 [] := own_below ho.out (fun g hg => hb5.block g (own_lt ho.out hg).2)
        have hFb : ∀ cv, Hid (Calls Try.prog 10 #[.pointer (some ⟨fb, 0, none⟩), cv] W5 fun e w' => e = .returned (.tuple #[.slice none 0 0, .int .i64 30]) ∧ ∃ n, w' = W5.drewN n) := fun cv => feedBad_any fb (M.size : Int) (0 + M.size) 30 v4 cv W5 hC5 (by decide)
        have hHd : ∀ n, Hid (Calls Try.prog 11 #[.pointer (some ⟨fb, 0, none⟩)] (W5.drewN n) fun e w' => e = .returned (.int .i64 0) ∧ W5.drewN n = w') := fun n => held_any fb (M.size : Int) (0 + M.size) v4 _ [] (W5.drewN n) hC5 ho5
        have hNd : ∀ n, Hid (Calls Try.prog 12 #[.pointer (some ⟨fb, 0, none⟩)] (W5.drewN n) fun e w' => e = .returned (.int .i64 0) ∧ Below (W5.drewN n).heap.size (W5.drewN n) w') := fun n => needM_any fb (M.size : Int) (0 + M.size) v4 _ [] (W5.drewN n) hC5 ho5 (by decide) (by decide)
        have i0 : (0 : Int) ≤ (i : Int) := Int.natCast_nonneg _
        have i1 : (i : Int) < (l : Int) := Int.ofNat_lt.2 hlt
        have hlt' : Hid (i < l) := hlt
        have hiw : Hid (wrap64 ((i : Int) + 1) = ((i + 1 : Nat) : Int)) := by unfold Hid wrap64; omega
        have hC5' : Hid (Cells W5 fb (frL (M.size : Int) (0 + M.size) v4 ⟨0, 0, 30⟩) ∧ Own W5 (fb + 1) v4 [] ∧ fb < W5.heap.size) := ⟨hC5, ho5, hC5.lt⟩
        have HB5 : Below w.heap.size w W5 := HB.trans (hb5.mono HB.size)
        clear hC ho hC5 ho5 hb5 HB
        go_wp2_with fail
        refine (hFb _).out.mono ?_
        rintro e w6 ⟨rfl, nn, rfl⟩
        go_wp2_with fail
        refine (hHd _).out.mono ?_
        rintro e w7 ⟨rfl, rfl⟩
        go_wp2_with fail
        refine (hNd _).out.mono ?_
        rintro e w8 ⟨rfl, hb8⟩
        have hC8 : Hid (Cells w8 fb (frL (M.size : Int) (0 + M.size) v4 ⟨0, 0, 30⟩)) := hC5'.out.1.of_block (hb8.block fb hC5'.out.2.2)
        have ho8 : Hid (Own w8 (fb + 1) v4 []) := own_below hC5'.out.2.1 (fun g hg => hb8.block g (own_lt hC5'.out.2.1 hg).2)
        have HB8 : Below w.heap.size w w8 := (below_drewN HB5 _).trans (hb8.mono HB5.size)
        clear hb8 hcell hcv5
        go_wp2_with fail
        refine ⟨⟨i + 1, hlt'.out, by simp, hC8, ho8, HB8⟩, ?_⟩
        have := hlt'.out
        simp [intOf]
        omega
      · have hFt : Hid (Calls Try.prog 13 #[.pointer (some ⟨fb, 0, none⟩)] wr fun e w' => e = .returned (.tuple #[.int .i64 30, .int .i64 (M.size : Int)]) ∧ ∃ n, w' = wr.drewN n) := by
          have h := fault_any fb (M.size : Int) (0 + M.size) 30 v4 wr hC.out (by decide)
          rw [Nat.zero_add] at h
          exact h
        clear hC ho hi
        go_wp2_with fail
        refine hFt.out.mono ?_
        rintro e w9 ⟨rfl, nn, rfl⟩
        go_wp2_with fail
        go_ret
        exact ⟨rfl, below_drewN HB _⟩
  · go_enter Try.func3, Try.ntmps3
    go_wp2_with fail
    refine (HS _).mono ?_
    rintro r w1 ⟨rfl, rfl⟩
    go_wp2_with fail
    refine (HW _).mono ?_
    rintro r w1 ⟨rfl, HB1⟩
    go_wp2_with fail
    refine (HN _).out.mono ?_
    rintro e w2 ⟨fb, rfl, hfb1, hfb2, hCf, hb2⟩
    have HB2 : Below w.heap.size w w2 := HB1.trans (hb2.mono HB1.size)
    have hwn : w.heap.size ≤ w1.heap.size := HB1.size
    have hcv1 : (convert 30 9 (.slice (some ⟨w2.heap.size, 0, none⟩) 1 1)).run Try.prog (w2.alloc (.cells #[.int .u8 (c0.toNat : Int)] 5)) = .ok (.string (S [c0])) (w2.alloc (.cells #[.int .u8 (c0.toNat : Int)] 5)) := own_byte w2 c0
    have hfbl : fb < w2.heap.size := by omega
    clear hfb2
    obtain ⟨W3, cap, hcv2, hb3, hn3, hck3, hcc3, hcap3⟩ := conv_chk (w2.alloc (.cells #[.int .u8 (c0.toNat : Int)] 5)) Z (by have := hZs.out; omega)
    have hn2 : (w2.alloc (.cells #[.int .u8 (c0.toNat : Int)] 5)).heap.size = w2.heap.size + 1 := by simp
    have hC3 : Cells W3 fb (frL (M.size : Int) 0 (.slice none 0 0) (FrMath.look (M.size : Int) [])) := (hCf.of_block (Below.heap_alloc _ _ _ hfbl)).of_block (hb3.block fb (by omega))
    have hFd : Hid (Calls Try.prog 10 #[.pointer (some ⟨fb, 0, none⟩), .slice (some ⟨w2.heap.size + 1, 0, none⟩) Z.size cap] W3 fun e w' => FeedQ fb (M.size : Int) 0 (.slice none 0 0) [] Z.data.toList W3 e w') := by
      have h := feed_any fb (M.size : Int) 0 (.slice none 0 0) [] Z.data.toList W3 (w2.heap.size + 1) 0 cap hC3 ⟨rfl, Or.inl ⟨rfl, rfl⟩⟩ (proper_nil _) (by omega) (by omega) (by intro hh; cases hh) (by rw [← hn2]; exact hck3) (by rw [← hZs.out.2]; exact hcc3) hcap3 (by have := hZs.out; simp; omega) (by omega)
      rw [← hZs.out.2] at h
      exact h
    have HB3 : Below w.heap.size w W3 := (HB2.alloc HB2.size _).trans (hb3.mono (by omega))
    clear hck3 hcc3 hcap3 hC3 hCf hb3 hb2 HB2 HB1 HN HS HW
    rw [hn2] at hcv2
    clear hn2
    go_wp2_with fail
    refine hFd.out.mono ?_
    intro e w4 hq
    unfold FeedQ at hq
    rw [hcutZ.out] at hq
    obtain ⟨mv, v4, rfl, hms, hfr, hkp, _, _, hbad⟩ := hq
    obtain ⟨hC4, ho4⟩ := hbad (by simp)
    simp only at hms hC4
    have HB4 : Below w.heap.size w w4 := HB3.trans (hkp.1.mono (by omega))
    rcases ownS_form hms with ⟨_, hc⟩ | ⟨gm, mcap, rfl⟩
    · cases hc
    have hc0 : w4.cell? ⟨gm, 0, none⟩ = some (.string M) := ownS_one hms hY.out
    have hC4' : Hid (Cells w4 fb (frL (M.size : Int) (0 + M.size) v4 ⟨0, 0, 30⟩)) := hC4
    have ho4' : Hid (Own w4 (fb + 1) v4 []) := ho4
    have hfw : Hid (w.heap.size ≤ fb) := by unfold Hid; omega
    clear hFd hcv1 hcv2 hms hfr hkp hbad hcutZ HB3 hC4 ho4 hwn hfb1 hfbl hn3
    go_wp2_with fail
    go_loopw [14] (fun iv wr => ∃ (i : Nat), i ≤ l ∧ iv = .int .i64 (i : Int) ∧ Hid (Cells wr fb (frL (M.size : Int) (0 + M.size) v4 ⟨0, 0, 30⟩)) ∧ Hid (Own wr (fb + 1) v4 []) ∧ Below w.heap.size w wr) (fun iv _ => l - (intOf iv).toNat)
    case atStart => exact ⟨0, Nat.zero_le _, rfl, hC4', ho4', HB4⟩
    case round =>
      obtain ⟨i, hil, rfl, hC, ho, HB⟩ := hrel
      clear hC4' ho4' HB4 hc0
      by_cases hlt : i < l
      · obtain ⟨b, off, s, rfl, hcell⟩ := (hi.below HB) i hlt
        obtain ⟨W5, cap5, hcv5, hb5, hn5, _⟩ := conv_bytes (P := Try.prog) wr 9 30 5 s Try.underlying9 Try.underlying30 Try.underlying5
        have hfl : fb < wr.heap.size := hC.out.lt
        have hC5 : Cells W5 fb (frL (M.size : Int) (0 + M.size) v4 ⟨0, 0, 30⟩) := hC.out.of_block (hb5.block fb hfl)
        have ho5 : Own W5 (fb + 1) v4 [] := own_below ho.out (fun g hg => hb5.block g (own_lt ho.out hg).2)
        have hFb : ∀ cv, Hid (Calls Try.prog 10 #[.pointer (some ⟨fb, 0, none⟩), cv] W5 fun e w' => e = .returned (.tuple #[.slice none 0 0, .int .i64 30]) ∧ ∃ n, w' = W5.drewN n) := fun cv => feedBad_any fb (M.size : Int) (0 + M.size) 30 v4 cv W5 hC5 (by decide)
        have hHd : ∀ n, Hid (Calls Try.prog 11 #[.pointer (some ⟨fb, 0, none⟩)] (W5.drewN n) fun e w' => e = .returned (.int .i64 0) ∧ W5.drewN n = w') := fun n => held_any fb (M.size : Int) (0 + M.size) v4 _ [] (W5.drewN n) hC5 ho5
        have hNd : ∀ n, Hid (Calls Try.prog 12 #[.pointer (some ⟨fb, 0, none⟩)] (W5.drewN n) fun e w' => e = .returned (.int .i64 0) ∧ Below (W5.drewN n).heap.size (W5.drewN n) w') := fun n => needM_any fb (M.size : Int) (0 + M.size) v4 _ [] (W5.drewN n) hC5 ho5 (by decide) (by decide)
        have i0 : (0 : Int) ≤ (i : Int) := Int.natCast_nonneg _
        have i1 : (i : Int) < (l : Int) := Int.ofNat_lt.2 hlt
        have hlt' : Hid (i < l) := hlt
        have hiw : Hid (wrap64 ((i : Int) + 1) = ((i + 1 : Nat) : Int)) := by unfold Hid wrap64; omega
        have hC5' : Hid (Cells W5 fb (frL (M.size : Int) (0 + M.size) v4 ⟨0, 0, 30⟩) ∧ Own W5 (fb + 1) v4 [] ∧ fb < W5.heap.size) := ⟨hC5, ho5, hC5.lt⟩
        have HB5 : Below w.heap.size w W5 := HB.trans (hb5.mono HB.size)
        clear hC ho hC5 ho5 hb5 HB
        go_wp2_with fail
        refine (hFb _).out.mono ?_
        rintro e w6 ⟨rfl, nn, rfl⟩
        go_wp2_with fail
        refine (hHd _).out.mono ?_
        rintro e w7 ⟨rfl, rfl⟩
        go_wp2_with fail
        refine (hNd _).out.mono ?_
        rintro e w8 ⟨rfl, hb8⟩
        have hC8 : Hid (Cells w8 fb (frL (M.size : Int) (0 + M.size) v4 ⟨0, 0, 30⟩)) := hC5'.out.1.of_block (hb8.block fb hC5'.out.2.2)
        have ho8 : Hid (Own w8 (fb + 1) v4 []) := own_below hC5'.out.2.1 (fun g hg => hb8.block g (own_lt hC5'.out.2.1 hg).2)
        have HB8 : Below w.heap.size w w8 := (below_drewN HB5 _).trans (hb8.mono HB5.size)
        clear hb8 hcell hcv5
        go_wp2_with fail
        refine ⟨⟨i + 1, hlt'.out, by simp, hC8, ho8, HB8⟩, ?_⟩
        have := hlt'.out
        simp [intOf]
        omega
      · have hFt : Hid (Calls Try.prog 13 #[.pointer (some ⟨fb, 0, none⟩)] wr fun e w' => e = .returned (.tuple #[.int .i64 30, .int .i64 (M.size : Int)]) ∧ ∃ n, w' = wr.drewN n) := by
          have h := fault_any fb (M.size : Int) (0 + M.size) 30 v4 wr hC.out (by decide)
          rw [Nat.zero_add] at h
          exact h
        clear hC ho hi
        go_wp2_with fail
        refine hFt.out.mono ?_
        rintro e w9 ⟨rfl, nn, rfl⟩
        go_wp2_with fail
        go_ret
        exact ⟨rfl, below_drewN HB _⟩
  · go_enter Try.func3, Try.ntmps3
    go_wp2_with fail
    refine (HS _).mono ?_
    rintro r w1 ⟨rfl, rfl⟩
    go_wp2_with fail
    refine (HW _).mono ?_
    rintro r w1 ⟨rfl, HB1⟩
    go_wp2_with fail
    refine (HN _).out.mono ?_
    rintro e w2 ⟨fb, rfl, hfb1, hfb2, hCf, hb2⟩
    have HB2 : Below w.heap.size w w2 := HB1.trans (hb2.mono HB1.size)
    have hwn : w.heap.size ≤ w1.heap.size := HB1.size
    have hcv1 : (convert 30 9 (.slice (some ⟨w2.heap.size, 0, none⟩) 1 1)).run Try.prog (w2.alloc (.cells #[.int .u8 49] 5)) = .ok (.string (S [(49 : UInt8)])) (w2.alloc (.cells #[.int .u8 49] 5)) := own_byte w2 (49 : UInt8)
    have hfbl : fb < w2.heap.size := by omega
    clear hfb2
    obtain ⟨W3, cap, hcv2, hb3, hn3, hck3, hcc3, hcap3⟩ := conv_chk (w2.alloc (.cells #[.int .u8 49] 5)) Z (by have := hZs.out; omega)
    have hn2 : (w2.alloc (.cells #[.int .u8 49] 5)).heap.size = w2.heap.size + 1 := by simp
    have hC3 : Cells W3 fb (frL limit 0 (.slice none 0 0) (FrMath.look limit [])) := (hCf.of_block (Below.heap_alloc _ _ _ hfbl)).of_block (hb3.block fb (by omega))
    have hFd : Hid (Calls Try.prog 10 #[.pointer (some ⟨fb, 0, none⟩), .slice (some ⟨w2.heap.size + 1, 0, none⟩) Z.size cap] W3 fun e w' => FeedQ fb limit 0 (.slice none 0 0) [] Z.data.toList W3 e w') := by
      have h := feed_any fb limit 0 (.slice none 0 0) [] Z.data.toList W3 (w2.heap.size + 1) 0 cap hC3 ⟨rfl, Or.inl ⟨rfl, rfl⟩⟩ (proper_nil _) (by omega) (by omega) (by intro hh; cases hh) (by rw [← hn2]; exact hck3) (by rw [← hZs.out.2]; exact hcc3) hcap3 (by have := hZs.out; simp; omega) (by omega)
      rw [← hZs.out.2] at h
      exact h
    have HB3 : Below w.heap.size w W3 := (HB2.alloc HB2.size _).trans (hb3.mono (by omega))
    clear hck3 hcc3 hcap3 hC3 hCf hb3 hb2 HB2 HB1 HN HS HW
    rw [hn2] at hcv2
    clear hn2
    go_wp2_with fail
    refine hFd.out.mono ?_
    intro e w4 hq
    unfold FeedQ at hq
    rw [hcutZ.out] at hq
    obtain ⟨mv, v4, rfl, hms, hfr, hkp, _, _, hbad⟩ := hq
    obtain ⟨hC4, ho4⟩ := hbad (by simp)
    simp only at hms hC4
    have HB4 : Below w.heap.size w w4 := HB3.trans (hkp.1.mono (by omega))
    rcases ownS_form hms with ⟨_, hc⟩ | ⟨gm, mcap, rfl⟩
    · cases hc
    have hc0 : w4.cell? ⟨gm, 0, none⟩ = some (.string M) := ownS_one hms hY.out
    have hC4' : Hid (Cells w4 fb (frL limit (0 + M.size) v4 ⟨0, 0, 30⟩)) := hC4
    have ho4' : Hid (Own w4 (fb + 1) v4 []) := ho4
    have hfw : Hid (w.heap.size ≤ fb) := by unfold Hid; omega
    clear hFd hcv1 hcv2 hms hfr hkp hbad hcutZ HB3 hC4 ho4 hwn hfb1 hfbl hn3
    go_wp2_with fail
    go_loopw [14] (fun iv wr => ∃ (i : Nat), i ≤ l ∧ iv = .int .i64 (i : Int) ∧ Hid (Cells wr fb (frL limit (0 + M.size) v4 ⟨0, 0, 30⟩)) ∧ Hid (Own wr (fb + 1) v4 []) ∧ Below w.heap.size w wr) (fun iv _ => l - (intOf iv).toNat)
    case atStart => exact ⟨0, Nat.zero_le _, rfl, hC4', ho4', HB4⟩
    case round =>
      obtain ⟨i, hil, rfl, hC, ho, HB⟩ := hrel
      clear hC4' ho4' HB4 hc0
      by_cases hlt : i < l
      · obtain ⟨b, off, s, rfl, hcell⟩ := (hi.below HB) i hlt
        obtain ⟨W5, cap5, hcv5, hb5, hn5, _⟩ := conv_bytes (P := Try.prog) wr 9 30 5 s Try.underlying9 Try.underlying30 Try.underlying5
        have hfl : fb < wr.heap.size := hC.out.lt
        have hC5 : Cells W5 fb (frL limit (0 + M.size) v4 ⟨0, 0, 30⟩) := hC.out.of_block (hb5.block fb hfl)
        have ho5 : Own W5 (fb + 1) v4 [] := own_below ho.out (fun g hg => hb5.block g (own_lt ho.out hg).2)
        have hFb : ∀ cv, Hid (Calls Try.prog 10 #[.pointer (some ⟨fb, 0, none⟩), cv] W5 fun e w' => e = .returned (.tuple #[.slice none 0 0, .int .i64 30]) ∧ ∃ n, w' = W5.drewN n) := fun cv => feedBad_any fb limit (0 + M.size) 30 v4 cv W5 hC5 (by decide)
        have hHd : ∀ n, Hid (Calls Try.prog 11 #[.pointer (some ⟨fb, 0, none⟩)] (W5.drewN n) fun e w' => e = .returned (.int .i64 0) ∧ W5.drewN n = w') := fun n => held_any fb limit (0 + M.size) v4 _ [] (W5.drewN n) hC5 ho5
        have hNd : ∀ n, Hid (Calls Try.prog 12 #[.pointer (some ⟨fb, 0, none⟩)] (W5.drewN n) fun e w' => e = .returned (.int .i64 0) ∧ Below (W5.drewN n).heap.size (W5.drewN n) w') := fun n => needM_any fb limit (0 + M.size) v4 _ [] (W5.drewN n) hC5 ho5 (by decide) (by decide)
        have i0 : (0 : Int) ≤ (i : Int) := Int.natCast_nonneg _
        have i1 : (i : Int) < (l : Int) := Int.ofNat_lt.2 hlt
        have hlt' : Hid (i < l) := hlt
        have hiw : Hid (wrap64 ((i : Int) + 1) = ((i + 1 : Nat) : Int)) := by unfold Hid wrap64; omega
        have hC5' : Hid (Cells W5 fb (frL limit (0 + M.size) v4 ⟨0, 0, 30⟩) ∧ Own W5 (fb + 1) v4 [] ∧ fb < W5.heap.size) := ⟨hC5, ho5, hC5.lt⟩
        have HB5 : Below w.heap.size w W5 := HB.trans (hb5.mono HB.size)
        clear hC ho hC5 ho5 hb5 HB
        go_wp2_with fail
        refine (hFb _).out.mono ?_
        rintro e w6 ⟨rfl, nn, rfl⟩
        go_wp2_with fail
        refine (hHd _).out.mono ?_
        rintro e w7 ⟨rfl, rfl⟩
        go_wp2_with fail
        refine (hNd _).out.mono ?_
        rintro e w8 ⟨rfl, hb8⟩
        have hC8 : Hid (Cells w8 fb (frL limit (0 + M.size) v4 ⟨0, 0, 30⟩)) := hC5'.out.1.of_block (hb8.block fb hC5'.out.2.2)
        have ho8 : Hid (Own w8 (fb + 1) v4 []) := own_below hC5'.out.2.1 (fun g hg => hb8.block g (own_lt hC5'.out.2.1 hg).2)
        have HB8 : Below w.heap.size w w8 := (below_drewN HB5 _).trans (hb8.mono HB5.size)
        clear hb8 hcell hcv5
        go_wp2_with fail
        refine ⟨⟨i + 1, hlt'.out, by simp, hC8, ho8, HB8⟩, ?_⟩
        have := hlt'.out
        simp [intOf]
        omega
      · have hFt : Hid (Calls Try.prog 13 #[.pointer (some ⟨fb, 0, none⟩)] wr fun e w' => e = .returned (.tuple #[.int .i64 30, .int .i64 (M.size : Int)]) ∧ ∃ n, w' = wr.drewN n) := by
          have h := fault_any fb limit (0 + M.size) 30 v4 wr hC.out (by decide)
          rw [Nat.zero_add] at h
          exact h
        clear hC ho hi
        go_wp2_with fail
        refine hFt.out.mono ?_
        rintro e w9 ⟨rfl, nn, rfl⟩
        go_wp2_with fail
        go_ret
        exact ⟨rfl, below_drewN HB _⟩
  · go_enter Try.func3, Try.ntmps3
    go_wp2_with fail
    refine (HS _).mono ?_
    rintro r w1 ⟨rfl, rfl⟩
    go_wp2_with fail
    refine (HW _).mono ?_
    rintro r w1 ⟨rfl, HB1⟩
    go_wp2_with fail
    refine (HN _).out.mono ?_
    rintro e w2 ⟨fb, rfl, hfb1, hfb2, hCf, hb2⟩
    have HB2 : Below w.heap.size w w2 := HB1.trans (hb2.mono HB1.size)
    have hwn : w.heap.size ≤ w1.heap.size := HB1.size
    have hcv1 : (convert 30 9 (.slice (some ⟨w2.heap.size, 0, none⟩) 1 1)).run Try.prog (w2.alloc (.cells #[.int .u8 (c0.toNat : Int)] 5)) = .ok (.string (S [c0])) (w2.alloc (.cells #[.int .u8 (c0.toNat : Int)] 5)) := own_byte w2 c0
    have hfbl : fb < w2.heap.size := by omega
    clear hfb2
    obtain ⟨W3, cap, hcv2, hb3, hn3, hck3, hcc3, hcap3⟩ := conv_chk (w2.alloc (.cells #[.int .u8 (c0.toNat : Int)] 5)) Z (by have := hZs.out; omega)
    have hn2 : (w2.alloc (.cells #[.int .u8 (c0.toNat : Int)] 5)).heap.size = w2.heap.size + 1 := by simp
    have hC3 : Cells W3 fb (frL limit 0 (.slice none 0 0) (FrMath.look limit [])) := (hCf.of_block (Below.heap_alloc _ _ _ hfbl)).of_block (hb3.block fb (by omega))
    have hFd : Hid (Calls Try.prog 10 #[.pointer (some ⟨fb, 0, none⟩), .slice (some ⟨w2.heap.size + 1, 0, none⟩) Z.size cap] W3 fun e w' => FeedQ fb limit 0 (.slice none 0 0) [] Z.data.toList W3 e w') := by
      have h := feed_any fb limit 0 (.slice none 0 0) [] Z.data.toList W3 (w2.heap.size + 1) 0 cap hC3 ⟨rfl, Or.inl ⟨rfl, rfl⟩⟩ (proper_nil _) (by omega) (by omega) (by intro hh; cases hh) (by rw [← hn2]; exact hck3) (by rw [← hZs.out.2]; exact hcc3) hcap3 (by have := hZs.out; simp; omega) (by omega)
      rw [← hZs.out.2] at h
      exact h
    have HB3 : Below w.heap.size w W3 := (HB2.alloc HB2.size _).trans (hb3.mono (by omega))
    clear hck3 hcc3 hcap3 hC3 hCf hb3 hb2 HB2 HB1 HN HS HW
    rw [hn2] at hcv2
    clear hn2
    go_wp2_with fail
    refine hFd.out.mono ?_
    intro e w4 hq
    unfold FeedQ at hq
    rw [hcutZ.out] at hq
    obtain ⟨mv, v4, rfl, hms, hfr, hkp, _, _, hbad⟩ := hq
    obtain ⟨hC4, ho4⟩ := hbad (by simp)
    simp only at hms hC4
    have HB4 : Below w.heap.size w w4 := HB3.trans (hkp.1.mono (by omega))
    rcases ownS_form hms with ⟨_, hc⟩ | ⟨gm, mcap, rfl⟩
    · cases hc
    have hc0 : w4.cell? ⟨gm, 0, none⟩ = some (.string M) := ownS_one hms hY.out
    have hC4' : Hid (Cells w4 fb (frL limit (0 + M.size) v4 ⟨0, 0, 30⟩)) := hC4
    have ho4' : Hid (Own w4 (fb + 1) v4 []) := ho4
    have hfw : Hid (w.heap.size ≤ fb) := by unfold Hid; omega
    clear hFd hcv1 hcv2 hms hfr hkp hbad hcutZ HB3 hC4 ho4 hwn hfb1 hfbl hn3
    go_wp2_with fail
    go_loopw [14] (fun iv wr => ∃ (i : Nat), i ≤ l ∧ iv = .int .i64 (i : Int) ∧ Hid (Cells wr fb (frL limit (0 + M.size) v4 ⟨0, 0, 30⟩)) ∧ Hid (Own wr (fb + 1) v4 []) ∧ Below w.heap.size w wr) (fun iv _ => l - (intOf iv).toNat)
    case atStart => exact ⟨0, Nat.zero_le _, rfl, hC4', ho4', HB4⟩
    case round =>
      obtain ⟨i, hil, rfl, hC, ho, HB⟩ := hrel
      clear hC4' ho4' HB4 hc0
      by_cases hlt : i < l
      · obtain ⟨b, off, s, rfl, hcell⟩ := (hi.below HB) i hlt
        obtain ⟨W5, cap5, hcv5, hb5, hn5, _⟩ := conv_bytes (P := Try.prog) wr 9 30 5 s Try.underlying9 Try.underlying30 Try.underlying5
        have hfl : fb < wr.heap.size := hC.out.lt
        have hC5 : Cells W5 fb (frL limit (0 + M.size) v4 ⟨0, 0, 30⟩) := hC.out.of_block (hb5.block fb hfl)
        have ho5 : Own W5 (fb + 1) v4 [] := own_below ho.out (fun g hg => hb5.block g (own_lt ho.out hg).2)
        have hFb : ∀ cv, Hid (Calls Try.prog 10 #[.pointer (some ⟨fb, 0, none⟩), cv] W5 fun e w' => e = .returned (.tuple #[.slice none 0 0, .int .i64 30]) ∧ ∃ n, w' = W5.drewN n) := fun cv => feedBad_any fb limit (0 + M.size) 30 v4 cv W5 hC5 (by decide)
        have hHd : ∀ n, Hid (Calls Try.prog 11 #[.pointer (some ⟨fb, 0, none⟩)] (W5.drewN n) fun e w' => e = .returned (.int .i64 0) ∧ W5.drewN n = w') := fun n => held_any fb limit (0 + M.size) v4 _ [] (W5.drewN n) hC5 ho5
        have hNd : ∀ n, Hid (Calls Try.prog 12 #[.pointer (some ⟨fb, 0, none⟩)] (W5.drewN n) fun e w' => e = .returned (.int .i64 0) ∧ Below (W5.drewN n).heap.size (W5.drewN n) w') := fun n => needM_any fb limit (0 + M.size) v4 _ [] (W5.drewN n) hC5 ho5 (by decide) (by decide)
        have i0 : (0 : Int) ≤ (i : Int) := Int.natCast_nonneg _
        have i1 : (i : Int) < (l : Int) := Int.ofNat_lt.2 hlt
        have hlt' : Hid (i < l) := hlt
        have hiw : Hid (wrap64 ((i : Int) + 1) = ((i + 1 : Nat) : Int)) := by unfold Hid wrap64; omega
        have hC5' : Hid (Cells W5 fb (frL limit (0 + M.size) v4 ⟨0, 0, 30⟩) ∧ Own W5 (fb + 1) v4 [] ∧ fb < W5.heap.size) := ⟨hC5, ho5, hC5.lt⟩
        have HB5 : Below w.heap.size w W5 := HB.trans (hb5.mono HB.size)
        clear hC ho hC5 ho5 hb5 HB
        go_wp2_with fail
        refine (hFb _).out.mono ?_
        rintro e w6 ⟨rfl, nn, rfl⟩
        go_wp2_with fail
        refine (hHd _).out.mono ?_
        rintro e w7 ⟨rfl, rfl⟩
        go_wp2_with fail
        refine (hNd _).out.mono ?_
        rintro e w8 ⟨rfl, hb8⟩
        have hC8 : Hid (Cells w8 fb (frL limit (0 + M.size) v4 ⟨0, 0, 30⟩)) := hC5'.out.1.of_block (hb8.block fb hC5'.out.2.2)
        have ho8 : Hid (Own w8 (fb + 1) v4 []) := own_below hC5'.out.2.1 (fun g hg => hb8.block g (own_lt hC5'.out.2.1 hg).2)
        have HB8 : Below w.heap.size w w8 := (below_drewN HB5 _).trans (hb8.mono HB5.size)
        clear hb8 hcell hcv5
        go_wp2_with fail
        refine ⟨⟨i + 1, hlt'.out, by simp, hC8, ho8, HB8⟩, ?_⟩
        have := hlt'.out
        simp [intOf]
        omega
      · have hFt : Hid (Calls Try.prog 13 #[.pointer (some ⟨fb, 0, none⟩)] wr fun e w' => e = .returned (.tuple #[.int .i64 30, .int .i64 (M.size : Int)]) ∧ ∃ n, w' = wr.drewN n) := by
          have h := fault_any fb limit (0 + M.size) 30 v4 wr hC.out (by decide)
          rw [Nat.zero_add] at h
          exact h
        clear hC ho hi
        go_wp2_with fail
        refine hFt.out.mono ?_
        rintro e w9 ⟨rfl, nn, rfl⟩
        go_wp2_with fail
        go_ret
        exact ⟨rfl, below_drewN HB _⟩

theorem frameEnds_walk (limit : Int) (first : ByteArray) (bad : Int) (a : Option Addr) (l cp : Nat) (w : World) (hi : IsStrs w a l) (hl63 : l ≤ 9223372036854775807) (hm : first.size ≤ 140737488351232) :
    Calls Try.prog 3 #[.int .i64 limit, .string first, .int .i64 bad, .slice a l cp] w fun e w' => e = .returned (.bool true) ∧ Below w.heap.size w w' := by
  obtain ⟨t, ht, _, HS⟩ := short_any first hm
  obtain ⟨k, hk, HW⟩ := wrap_any 0 t ht
  obtain ⟨M, hM⟩ : ∃ M, S (hd k t.size) ++ t = M := ⟨_, rfl⟩
  rw [hM] at HW
  have hMl : M.data.toList = hd k t.size ++ t.data.toList := by rw [← hM, app_l, S_l]
  have hMs : M.size = 2 + k + t.size := by rw [← size_l, hMl, List.length_append, hd_len, size_l]
  have hk4 := hk.1
  obtain ⟨c0, hc0⟩ := byte_of bad
  have hcc : ∃ c : UInt8, c.toNat ≠ 48 ∧ ((((c0.toNat : Int) == 48) = true ∧ c = 49) ∨ (((c0.toNat : Int) == 48) = false ∧ c0 = c)) := by
    by_cases h : c0.toNat = 48
    · exact ⟨49, by decide, Or.inl ⟨by rw [beq_iff_eq]; omega, rfl⟩⟩
    · exact ⟨c0, h, Or.inr ⟨by rw [beq_eq_false_iff_ne]; omega, rfl⟩⟩
  obtain ⟨c, hc, hcs⟩ := hcc
  have hcut : ∀ lim : Int, (M.size : Int) ≤ lim → Cut lim (M.data.toList ++ [c]) = ⟨[M.data.toList], M.size, 30⟩ := fun lim hl => by
    rw [hMl, hMs]
    exact cut_ends lim k t.size t.data.toList c hk (size_l t) (by omega) hc
  by_cases h : limit < (M.size : Int)
  · exact ends_core limit (M.size : Int) bad first t M c0 c a l cp w hi hl63 HS HW (by omega) (hcut _ (by omega)) (Or.inl ⟨decide_eq_true h, rfl⟩) hc0 hcs
  · exact ends_core limit limit bad first t M c0 c a l cp w hi hl63 HS HW (by omega) (hcut _ (by omega)) (Or.inr ⟨decide_eq_false h, rfl⟩) hc0 hcs
end Go.Proofs.Ytddkefjcpgdomab
