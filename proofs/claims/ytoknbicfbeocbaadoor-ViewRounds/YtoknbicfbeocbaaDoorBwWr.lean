import Derived.Test.YtoknbicfbeocbaaDoorBwX
import Derived.Deep.RegionHeld3
import Derived.Deep.RegionHeldLaw
namespace Go.Proofs.YtoknbicfbeocbaaDoor
open Go.RowKit
open BerMath (lo)
set_option linter.unusedVariables false

theorem lo_of (n : Nat) : lo (n : Int) = UInt8.ofNat (n % 256) := by
  apply UInt8.toNat_inj.1
  have h := BerMath.lo_n (n : Int)
  rw [UInt8.toNat_ofNat']
  omega
/-- The shortest form is the form with as many bytes as it takes. -/
theorem hdr_short (c : Nat) (m : Bool) (t n : Nat) : fb c m t :: lenB n = hdrL c m t n (ll n) := by
  have e1 : ∀ a b : Nat, 0 < b → ((a : Int) / (b : Int)) = ((a / b : Nat) : Int) := fun a b _ => by rw [Int.natCast_ediv]
  unfold hdrL
  congr 1
  rcases ll_cases n with ⟨a, e⟩ | ⟨a, b, e⟩ | ⟨a, b, c, e⟩ | ⟨a, b, c, d', e⟩ | ⟨a, b, c, d', e⟩
  all_goals
    rw [e]
    unfold lenB
  · rw [if_pos a, if_pos rfl, lo_of, Nat.mod_eq_of_lt (by omega)]
  · rw [if_neg a, if_pos b, if_neg (by decide)]
    simp only [beN, lo_of, List.nil_append]
    rfl
  · rw [if_neg a, if_neg b, if_pos c, if_neg (by decide)]
    have := e1 n 256 (by decide)
    simp only [beN, lo_of, List.nil_append, List.cons_append]
    rw [show ((n : Int) / 256) = ((n / 256 : Nat) : Int) from this, lo_of]
    rfl
  · rw [if_neg a, if_neg b, if_neg c, if_pos d', if_neg (by decide)]
    simp only [beN, lo_of, List.nil_append, List.cons_append]
    rw [show ((n : Int) / 256) = ((n / 256 : Nat) : Int) from e1 n 256 (by decide), show ((n : Int) / 65536) = ((n / 65536 : Nat) : Int) from e1 n 65536 (by decide), lo_of, lo_of, Nat.div_div_eq_div_mul]
    rfl
  · rw [if_neg a, if_neg b, if_neg c, if_neg d', if_neg (by decide)]
    simp only [beN, lo_of, List.nil_append, List.cons_append]
    rw [show ((n : Int) / 256) = ((n / 256 : Nat) : Int) from e1 n 256 (by decide), show ((n : Int) / 65536) = ((n / 65536 : Nat) : Int) from e1 n 65536 (by decide), show ((n : Int) / 16777216) = ((n / 16777216 : Nat) : Int) from e1 n 16777216 (by decide), lo_of, lo_of, lo_of]
    simp only [Nat.div_div_eq_div_mul, Nat.reduceMul]
    rfl
/-- What Write answers of a tree. -/
def WrR (e : Ending) (n : Nat) (D C T : Nat → Int) (M : Nat → Bool) (B : Nat → ByteArray) : Prop :=
  ∃ (H : Nat → List UInt8) (σ : List Nat), e = .returned (.tuple #[.string (S (outB H B 0 n)), .int .i64 0, .int .i64 0]) ∧ SpI n 0 D C T M B σ H ∧ ∀ j, j < n → ∃ len, H j = hdrL (C j).toNat (M j) (T j).toNat len (ll len) ∧ len ≤ 268435456
/-- What Write answers of any list. -/
def WrE (e : Ending) (n : Nat) (D C T : Nat → Int) (M : Nat → Bool) (B : Nat → ByteArray) : Prop :=
  ((0 < n ∧ ∀ i, i < n → Good D C T M B i) ∧ WrR e n D C T M B) ∨ (∃ c q : Int, c ≠ 0 ∧ CkR n D C T M B c q ∧ e = .returned (.tuple #[.string ⟨#[]⟩, .int .i64 c, .int .i64 q]))
theorem ck_zero {n : Nat} {D C T : Nat → Int} {M : Nat → Bool} {B : Nat → ByteArray} {c q : Int} (h : CkR n D C T M B c q) : (c = 0 ∧ 0 < n ∧ ∀ i, i < n → Good D C T M B i) ∨ (c = 28 ∨ c = 25) := by
  rcases h with ⟨h1, h2, h3, _⟩ | ⟨_, h2, _⟩ | ⟨i, _, _, _, ⟨_, h⟩ | ⟨_, _, h⟩⟩
  · exact Or.inl ⟨h3, h1, (fit_iff n D C T M B).1 h2⟩
  · exact Or.inr (Or.inl h2)
  · exact Or.inr (Or.inl h)
  · exact Or.inr (Or.inr h)

set_option maxRecDepth 100000 in
set_option maxHeartbeats 4000000 in
theorem write_any (a : Option Addr) (n c : Nat) (D C T : Nat → Int) (M : Nat → Bool) (B : Nat → ByteArray) (w : World) (hn : IsNodes w a n D C T M B) (hs : bsum B n ≤ 268435456) :
    Calls Tryd.prog 28 #[.slice a n c] w fun e w' => WrE e n D C T M B ∧ Below w.heap.size w w' := by
  have hnn : n ≤ 268435456 := by have := bsum_six B n; omega
  have HC := checkTree_any a n c D C T M B w hn (by omega)
  have HG : Hid (IsNodes w a n D C T M B ∧ bsum B n ≤ 268435456 ∧ n ≤ 268435456) := ⟨hn, hs, hnn⟩
  have HC' : Hid (Calls Tryd.prog 33 #[.slice a n c] w fun e w' => CkE e n D C T M B ∧ Below w.heap.size w w') := HC
  clear hn hs hnn HC
  go_enter Tryd.func28, Tryd.ntmps28
  go_wp2_with fail
  refine HC'.out.mono ?_
  rintro r w1 ⟨⟨cc, qq, rfl, hck⟩, hb1⟩
  clear HC'
  have HB1 : Hid (Below w.heap.size w w1) := hb1
  rcases ck_zero hck with ⟨rfl, h0, hG⟩ | hbad
  · have HM : Hid (Calls Tryd.prog 34 #[.slice a n c] w1 fun e w' => MeR e w1 w' n D C T M B ∧ Below w1.heap.size w1 w') := measure_any a n c D C T M B w1 (HG.out.1.below hb1) hG h0 HG.out.2.1
    have hGd : Hid (0 < n ∧ ∀ i, i < n → Good D C T M B i) := ⟨h0, hG⟩
    clear hck hb1 h0 hG
    go_wp2_with fail
    refine HM.out.mono ?_
    rintro r w2 ⟨⟨Ls, H, σ, rfl, hI, hH, hLB⟩, hb2⟩
    have HB2 : Hid (Below w.heap.size w w2) := HB1.out.trans (hb2.mono HB1.out.size)
    have hw12 : w1.heap.size < w2.heap.size := hLB.lt
    have htot : σ.getD 1 0 ≤ 140737488355328 := by
      have h5 := hI.2.2.2.2.1
      have := BhSpM.sum_ge σ 1
      have := HG.out.2.1
      omega
    have hlen : Hid (∀ j, j ≤ n → (outB H B 0 j).length ≤ 268435456) := by
      unfold Hid
      intro j hj
      obtain ⟨len, k, rest, r1, r2, r3, r4⟩ := spI_end hGd.out.1 hI
      have h1 := outB_le H B n j hj
      have h2 : (outB H B 0 n).length = 2 + k + len := by rw [r1, List.length_append, hdrL_len, r3]
      have := HG.out.2.1
      omega
    have hR : Hid (SpI n 0 D C T M B σ H ∧ ∀ j, j < n → ∃ len, H j = hdrL (C j).toNat (M j) (T j).toNat len (ll len) ∧ len ≤ 268435456) := ⟨hI, fun j hj => ⟨_, (hH j hj).1, (hH j hj).2⟩⟩
    have hLB' : Hid (LenB w2 w1.heap.size n 0 Ls) := hLB
    have hH' : Hid (∀ j, j < n → H j = hdrL (C j).toNat (M j) (T j).toNat (Ls j) (ll (Ls j))) := fun j hj => (hH j hj).1
    obtain ⟨N, hN⟩ : ∃ N, σ.getD 1 0 = N := ⟨_, rfl⟩
    rw [hN] at htot
    have hmk := mk_cap N htot
    have hgd : σ[1]?.getD 0 = N := hN
    have hOw : Hid (Own (w2.alloc (.cells (madeCells #[.int .u8 0] N) 5)) w2.heap.size (.slice (some ⟨w2.heap.size, 0, none⟩) 0 N) []) := own_made w2 w2.heap.size N (Nat.le_refl _) htot
    clear hI hH hLB htot hb2 HM
    go_wp2_with fail
    go_loopw [10, 35] (fun ov iv wr => ∃ (j : Nat) (vo : Value), ov = vo ∧ j ≤ n ∧ iv = .int .i64 (j : Int) ∧ Hid (Own wr w2.heap.size vo (outB H B 0 j) ∧ Below w2.heap.size w2 wr)) (fun _ iv _ => n - (intOf iv).toNat)
    case atStart => exact ⟨0, _, rfl, Nat.zero_le _, rfl, hOw.out, (Below.refl _ _).alloc (Nat.le_refl _) _⟩
    case round =>
      obtain ⟨j, vo, hvo, hj, rfl, HO⟩ := hrel
      have hvo' := hvo.symm
      clear hvo
      subst hvo'
      clear hmk hOw hgd hN
      have j0 : (0 : Int) ≤ (j : Int) := Int.natCast_nonneg _
      by_cases hlt : j < n
      · have j1 : (j : Int) < (n : Int) := Int.ofNat_lt.2 hlt
        obtain ⟨b, off, rfl, c0, c1, c2, c3, c4⟩ := ((HG.out.1.below HB2.out).below HO.out.2) j hlt
        obtain ⟨gd1, gd2, gd3, gd4, _⟩ := hGd.out.2 j hlt
        have l1 : wr.cell? ⟨w1.heap.size, j, none⟩ = some (.int .i64 (Ls j : Int)) := (HO.out.2.cell hw12).trans (hLB'.out.at j (Nat.zero_le _) hlt)
        have hbx : Hid ((wr.alloc (.cells #[.int .i64 (D j), .int .i64 (C j), .bool (M j), .int .i64 (T j), .string (B j)] 42)).heap[wr.heap.size]? = some (.cells #[.int .i64 (D j), .int .i64 (C j), .bool (M j), .int .i64 (T j), .string (B j)] 42 (0, 0))) := heap_alloc_last wr _
        have hs2 : w2.heap.size ≤ wr.heap.size := HO.out.2.size
        have hOA : Hid (Own (wr.alloc (.cells #[.int .i64 (D j), .int .i64 (C j), .bool (M j), .int .i64 (T j), .string (B j)] 42)) w2.heap.size vo (outB H B 0 j)) := World.ownsRow.alloc HO.out.1 _
        have hBA : Hid (Below w2.heap.size w2 (wr.alloc (.cells #[.int .i64 (D j), .int .i64 (C j), .bool (M j), .int .i64 (T j), .string (B j)] 42))) := HO.out.2.alloc hs2 _
        have lA : (wr.alloc (.cells #[.int .i64 (D j), .int .i64 (C j), .bool (M j), .int .i64 (T j), .string (B j)] 42)).cell? ⟨w1.heap.size, j, none⟩ = some (.int .i64 (Ls j : Int)) := by rw [World.cell?_alloc_past _ _ _ (by show w1.heap.size < _; omega)]; exact l1
        have hHj : Hid (H j = hdrL (C j).toNat (M j) (T j).toNat (Ls j) (ll (Ls j))) := hH'.out j hlt
        have hl1 : Hid ((outB H B 0 j).length ≤ 268435456 ∧ (outB H B 0 (j + 1)).length ≤ 268435456) := ⟨hlen.out j hj, hlen.out (j + 1) hlt⟩
        obtain ⟨cl, hc⟩ : ∃ d : Nat, C j = (d : Int) := ⟨(C j).toNat, by omega⟩
        obtain ⟨t, ht⟩ : ∃ d : Nat, T j = (d : Int) := ⟨(T j).toNat, by omega⟩
        obtain ⟨m, hm⟩ : ∃ m, M j = m := ⟨_, rfl⟩
        obtain ⟨s, hs⟩ : ∃ s, B j = s := ⟨_, rfl⟩
        obtain ⟨dd, hdd⟩ : ∃ d, D j = d := ⟨_, rfl⟩
        have hct : Hid (cl ≤ 3 ∧ t ≤ 30) := ⟨by omega, by omega⟩
        have hsn : Hid (outB H B 0 (j + 1) = (outB H B 0 j ++ (fb cl m t :: lenB (Ls j))) ++ s.data.toList) := by
          unfold Hid
          rw [outB_snoc, hHj.out, hdr_short, hc, ht, hm, hs, Int.toNat_natCast, Int.toNat_natCast, List.append_assoc]
        have hwj := wr_up j (by have := HG.out.2.2; omega)
        have hlt' : Hid (j < n) := hlt
        rw [hdd] at c0
        rw [hc] at c1
        rw [hm] at c2
        rw [ht] at c3
        rw [hs] at c4
        rw [hdd, hc, hm, ht, hs] at hbx hOA hBA lA
        obtain ⟨Lj, hLj⟩ : ∃ x, Ls j = x := ⟨_, rfl⟩
        rw [hLj] at l1 lA hsn
        clear hc ht hm hs hdd hHj hLj gd1 gd2 gd3 gd4 hj hlt HO
        go_upto_region 11 with fail
        clear c0 c1 c2 c3 c4 l1
        obtain ⟨W1, hW1⟩ : ∃ W1, wr.alloc (.cells #[.int .i64 dd, .int .i64 (cl : Int), .bool m, .int .i64 (t : Int), .string s] 42) = W1 := ⟨_, rfl⟩
        rw [hW1] at hbx hOA hBA lA ⊢
        obtain ⟨g, hg⟩ : ∃ g, wr.heap.size = g := ⟨_, rfl⟩
        rw [hg] at hbx ⊢
        have hWs : Hid (w2.heap.size ≤ W1.heap.size) := hBA.out.size
        clear hW1 hg hs2
        have b1 : W1.cell? ⟨g, 1, none⟩ = some (.int .i64 (cl : Int)) := by simp [World.cell?, hbx.out]
        have b2 : W1.cell? ⟨g, 2, none⟩ = some (.bool m) := by simp [World.cell?, hbx.out]
        have b3 : W1.cell? ⟨g, 3, none⟩ = some (.int .i64 (t : Int)) := by simp [World.cell?, hbx.out]
        have HP : Hid (∀ W, Own W w2.heap.size vo (outB H B 0 j) → w2.heap.size ≤ W.heap.size → Calls Tryd.prog 35 #[vo, .int .i64 (cl : Int), .bool m, .int .i64 (t : Int), .int .i64 (Lj : Int)] W fun r w' => ∃ v', r = .returned v' ∧ Own w' w2.heap.size v' (outB H B 0 j ++ (fb cl m t :: lenB Lj)) ∧ BelT w2.heap.size W w') := fun W h1 h2 => putHeader_t w2.heap.size _ _ cl t m Lj W h1 h2 (by have := hl1.out.1; omega) hct.out.1 hct.out.2
        have hOD := World.ownsRow.drew hOA.out
        have hSf : Hid (∀ w5, BelT w2.heap.size W1.drew w5 → w5.cell? ⟨g, 1, none⟩ = some (.int .i64 (cl : Int)) ∧ w5.cell? ⟨g, 2, none⟩ = some (.bool m) ∧ w5.cell? ⟨g, 3, none⟩ = some (.int .i64 (t : Int)) ∧ w5.cell? ⟨w1.heap.size, j, none⟩ = some (.int .i64 (Lj : Int))) := fun w5 hb5 => by
          have q := hb5.2 g _ hbx.out (fun cs fz e => by injection e with _ e; exact absurd e (by decide))
          exact ⟨by simp [World.cell?, q], by simp [World.cell?, q], by simp [World.cell?, q], (hb5.1.cell hw12).trans lA⟩
        go_region_held3 (fun w' => w'.cell? ⟨g, 1, none⟩ = some (.int .i64 (cl : Int)) ∧ w'.cell? ⟨g, 2, none⟩ = some (.bool m) ∧ w'.cell? ⟨g, 3, none⟩ = some (.int .i64 (t : Int)) ∧ w'.cell? ⟨w1.heap.size, j, none⟩ = some (.int .i64 (Lj : Int)))
          (first | exact ⟨b1, b2, b3, lA⟩ | exact hS5)
          (first | (go_at_call 35; refine (HP.out _ hOD hWs.out).mono ?_; rintro r w5 ⟨v5, rfl, ho5, hb5⟩; have hS5 := hSf.out w5 hb5))
        have qb := hb5.2 g _ hbx.out (fun cs fz e => by injection e with _ e; exact absurd e (by decide))
        have b4 : w5.cell? ⟨g, 4, none⟩ = some (.string s) := by simp [World.cell?, qb]
        have hs5 : w2.heap.size ≤ w5.heap.size := Nat.le_trans hWs.out hb5.1.size
        have hb25 : Hid (Below w2.heap.size w2 w5) := hBA.out.drew.trans hb5.1
        have hl2 : Hid ((outB H B 0 j ++ (fb cl m t :: lenB Lj)).length + s.size ≤ 1099511627776) := by
          have h := hl1.out.2
          rw [hsn.out, List.length_append, size_l] at h
          unfold Hid
          omega
        clear qb hb5 hS5 hSf HP hOD b1 b2 b3 lA hbx hOA hBA
        go_wp2_with (at_builtin; refine push_str _ rfl _ _ rfl w2.heap.size _ (outB H B 0 j ++ (fb cl m t :: lenB Lj)) s rfl rfl ?_ ?_ ?_ ?_; (exact ho5); (exact hs5); (exact hl2.out); intro v6 w6 hown6 hb6)
        refine ⟨⟨j + 1, v6, rfl, hlt'.out, congrArg (Value.int .i64) (by rw [hwj]; omega), by rw [hsn.out]; exact hown6, hb25.out.trans hb6⟩, ?_⟩
        rw [hwj]
        have := hlt'.out
        simp [intOf]
        omega
      · obtain rfl : j = n := by omega
        have j1 : ¬ (j : Int) < (j : Int) := by omega
        have hback := own_back_any (P := Tryd.prog) wr w2.heap.size 34 9 5 _ _ _ Tryd.underlying34 Tryd.underlying5 Tryd.underlying9 HO.out.1
        have hfin : Hid (WrE (.returned (.tuple #[.string (S (outB H B 0 j)), .int .i64 0, .int .i64 0])) j D C T M B ∧ Below w.heap.size w wr) := ⟨Or.inl ⟨hGd.out, H, σ, rfl, hR.out⟩, HB2.out.trans (HO.out.2.mono HB2.out.size)⟩
        clear hR hGd HO
        go_wp2_with fail
        refine bodyPost_ret_by (v := .tuple #[.string (S (outB H B 0 j)), .int .i64 0, .int .i64 0]) (by simp [results, Tryd.results28]; try rfl) rfl hfin.out
  · have hne : Hid (WrE (.returned (.tuple #[.string ⟨#[]⟩, .int .i64 cc, .int .i64 qq])) n D C T M B) := Or.inr ⟨cc, qq, by omega, hck, rfl⟩
    have hcc : (cc != 0) = true := by
      rw [bne_iff_ne]
      omega
    clear hbad hck hb1
    go_wp2_with fail
    refine bodyPost_ret_by (v := .tuple #[.string ⟨#[]⟩, .int .i64 cc, .int .i64 qq]) (by simp [results, Tryd.results28]) rfl ⟨hne.out, HB1.out⟩
end Go.Proofs.YtoknbicfbeocbaaDoor
