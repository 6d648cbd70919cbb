import Derived.Test.YtgfonnjblbpogaaBwWr
import Derived.Test.YtgfonnjblbpogaaBfFr
import Derived.Test.YtgfonnjblbpogaaBRefJoin
import Derived.Test.YtgfonnjblbpogaaBwFm
import Derived.Deep.AppendLies
import Derived.Deep.RegionHeld3
import Derived.Deep.RegionHeldLaw
import Derived.Deep.RegionWith
import Derived.Lib.AppendZeros
import Derived.BigQuiet
import Derived.Test.YtgfonnjblbpogaaBwSm
import Derived.Deep.RegionLaw
namespace Go.Proofs.Ytgfonnjblbpogaa
open Go.RowKit
open BerMath (lo)
set_option linter.unusedVariables false

/-- A row of bytes appended to a row of the call's own. -/
theorem appendB_row (w : World) (B : Nat) (v : Value) (l : List UInt8) (C : Nat) (v2 : Value) (k : List UInt8) (hown : Own w B v l) (h2 : Own w C v2 k) (h0 : 0 < k.length) (hB : B ≤ w.heap.size) (hsz : l.length + k.length ≤ 1099511627776) :
    ∃ v' w', (Builtin.append_ #[50, 50] 50 #[v, v2]).run Try.prog w = .ok v' w' ∧ Own w' B v' (l ++ k) ∧ Below B w w' := by
  obtain ⟨i0, hi, hz0, hz1, hz2⟩ := info_parts info_u8
  rcases h2.2 with ⟨rfl, hn⟩ | ⟨g, cap, cur, rfl, hg⟩
  · omega
  · have hnews : ∀ j u, (bv k)[j]? = some u → w.cell? ((⟨g, 0, none⟩ : Addr).add j) = some u := by
      intro j u hj
      have hjn : j < k.length := by
        rcases Nat.lt_or_ge j k.length with h' | h'
        · exact h'
        · rw [List.getElem?_eq_none (by rw [bv_len]; exact h')] at hj; cases hj
      have hc := World.ownsRow.cellAt (show w.ownsRow C 5 1 _ k.length (bv k) from h2) j (by omega)
      have ea : (⟨g, 0, none⟩ : Addr).add j = ⟨g, j, none⟩ := by unfold Addr.add; split <;> simp_all
      rw [ea, hc]
      exact hj
    obtain ⟨g', cap', w', hr, q2, q3, _, _⟩ := run_append_lies (P := Try.prog) w 50 50 B 5 i0 _ 1 1 Try.underlying50 hi hz0 hz1 hz2 rfl (by decide) v l.length (bv l) hown ⟨g, 0, none⟩ k.length cap (bv k) (by rw [bv_len, Nat.mul_one]) hnews (bv_one _) h0 (by unfold maxLen; omega) (by omega) hB w.heap.size rfl
    refine ⟨_, w', hr, ?_, (Below.refl _ _).grown q3 hB (fun j hj => (World.ownsRow.lt (show w.ownsRow B 5 1 v l.length (bv l) from hown) _ hj).1)⟩
    unfold Own
    rw [bv_app, List.length_append]
    exact q2
theorem own_slice {w : World} {B : Nat} {v : Value} {l : List UInt8} (h : Own w B v l) : ∃ a c, v = .slice a l.length c := by
  rcases h.2 with ⟨rfl, hn⟩ | ⟨g, cap, cur, rfl, hg⟩
  · exact ⟨none, 0, by rw [hn]⟩
  · exact ⟨_, _, rfl⟩
theorem ownB_below {w w' : World} {B : Nat} {v : Value} {l : List UInt8} (h : Own w B v l) (hb : Below w.heap.size w w') : Own w' B v l := by
  rcases h with ⟨h1, ⟨rfl, h2⟩ | ⟨g, cap, cur, rfl, h3, h4, h5⟩⟩
  · exact ⟨h1, Or.inl ⟨rfl, h2⟩⟩
  · exact ⟨h1, Or.inr ⟨g, cap, cur, rfl, h3, by rw [hb.block g (Array.getElem?_eq_some_iff.1 h4).1]; exact h4, h5⟩⟩
theorem LenB.weak {W : World} {g n K K' : Nat} {Ls : Nat → Nat} (h : LenB W g n K Ls) (hk : K ≤ K') : LenB W g n K' Ls := by
  obtain ⟨cs, h1, h2, h3, h4⟩ := h
  exact ⟨cs, h1, h2, h3, fun j a b => h4 j (Nat.le_trans hk a) b⟩
theorem updL_twice (Ls : Nat → Nat) (i x y : Nat) : updL (updL Ls i x) i y = updL Ls i y := by
  funext j
  unfold updL
  by_cases e : j = i
  · rw [if_pos e, if_pos e]
  · rw [if_neg e, if_neg e, if_neg e]
/-- What the reference has in hand: the sums, the lengths. -/
def MsG (w W : World) (n K : Nat) (σ : List Nat) (Ls : Nat → Nat) : Prop := NumB W w.heap.size σ ∧ LenB W (w.heap.size + 1) n K Ls ∧ Below w.heap.size w W
theorem MsG.of {w W W' : World} {n K : Nat} {σ : List Nat} {Ls : Nat → Nat} (h : MsG w W n K σ Ls) (hb : Below W.heap.size W W') : MsG w W' n K σ Ls :=
  ⟨h.1.of (hb.block _ h.1.lt), h.2.1.of (hb.block _ h.2.1.lt), h.2.2.trans (hb.mono h.2.2.size)⟩
theorem MsG.drew {w W : World} {n K : Nat} {σ : List Nat} {Ls : Nat → Nat} (h : MsG w W n K σ Ls) : MsG w W.drew n K σ Ls := ⟨h.1.of rfl, h.2.1.of rfl, belowN h.2.2 1⟩
theorem MsG.num {w W : World} {n K : Nat} {σ : List Nat} {Ls : Nat → Nat} (h : MsG w W n K σ Ls) (hl : σ.length = 66) (e : Nat) (he : e < 66) (v : Nat) : MsG w (W.setCell ⟨w.heap.size, e, none⟩ (.int .i64 (v : Int))) n K (σ.set e v) Ls :=
  ⟨h.1.set hl e he v, h.2.1.of (Below.heap_setCell _ _ _ _ (by show w.heap.size + 1 ≠ w.heap.size; omega)), h.2.2.setCell (Nat.le_refl _) _⟩
theorem MsG.len {w W : World} {n i : Nat} {σ : List Nat} {Ls : Nat → Nat} (h : MsG w W n (i + 1) σ Ls) (hi : i < n) (x : Nat) : MsG w (W.setCell ⟨w.heap.size + 1, i, none⟩ (.int .i64 (x : Int))) n i σ (updL Ls i x) :=
  ⟨h.1.of (Below.heap_setCell _ _ _ _ (by show w.heap.size ≠ w.heap.size + 1; omega)), h.2.1.set hi x, h.2.2.setCell (Nat.le_succ _) _⟩
theorem MsG.len2 {w W : World} {n i : Nat} {σ : List Nat} {Ls : Nat → Nat} (y : Nat) (h : MsG w W n i σ (updL Ls i y)) (hi : i < n) (x : Nat) : MsG w (W.setCell ⟨w.heap.size + 1, i, none⟩ (.int .i64 (x : Int))) n i σ (updL Ls i x) := by
  have h' : MsG w W n (i + 1) σ (updL Ls i y) := ⟨h.1, h.2.1.weak (Nat.le_succ _), h.2.2⟩
  have := h'.len hi x
  rwa [updL_twice] at this
/-- A block that is none of the two keeps what it holds. -/
theorem box_set {W : World} {g b j : Nat} {t : TypeId} {cs : Array Value} {u : Value} (h : Box W g t cs) (hne : g ≠ b) : Box (W.setCell ⟨b, j, none⟩ u) g t cs := h.of (Below.heap_setCell _ _ _ _ hne)
theorem ck_unique {n : Nat} {D C T : Nat → Int} {M : Nat → Bool} {B : Nat → ByteArray} {c q c' q' : Int} (h : CkR n D C T M B c q) (h' : CkR n D C T M B c' q') : c = c' ∧ q = q' := by
  rcases h with ⟨a1, a2, a3, a4⟩ | ⟨a1, a2, a3⟩ | ⟨i, a1, a2, a3, a4⟩
  · rcases h' with ⟨b1, b2, b3, b4⟩ | ⟨b1, b2, b3⟩ | ⟨j, b1, b2, b3, b4⟩
    · exact ⟨a3.trans b3.symm, a4.trans b4.symm⟩
    · omega
    · rcases b4 with ⟨b5, _⟩ | ⟨_, b5, _⟩
      · exact absurd (a2 j b1).1 b5
      · exact absurd (a2 j b1).2 b5
  · rcases h' with ⟨b1, b2, b3, b4⟩ | ⟨b1, b2, b3⟩ | ⟨j, b1, b2, b3, b4⟩
    · omega
    · exact ⟨a2.trans b2.symm, a3.trans b3.symm⟩
    · omega
  · have nf : ¬ Fit D C T M B i := fun hf => by
      rcases a4 with ⟨a5, _⟩ | ⟨_, a5, _⟩
      · exact a5 hf.1
      · exact a5 hf.2
    rcases h' with ⟨b1, b2, b3, b4⟩ | ⟨b1, b2, b3⟩ | ⟨j, b1, b2, b3, b4⟩
    · exact absurd (b2 i a1) nf
    · omega
    · have nf' : ¬ Fit D C T M B j := fun hf => by
        rcases b4 with ⟨b5, _⟩ | ⟨_, b5, _⟩
        · exact b5 hf.1
        · exact b5 hf.2
      have e : i = j := by
        rcases Nat.lt_trichotomy i j with h | h | h
        · exact absurd (b2 i h) nf
        · exact h
        · exact absurd (a2 j h) nf'
      subst e
      refine ⟨?_, a3.trans b3.symm⟩
      rcases a4 with ⟨a5, a6⟩ | ⟨a5, _, a6⟩ <;> rcases b4 with ⟨b5, b6⟩ | ⟨b5, _, b6⟩
      · exact a6.trans b6.symm
      · exact absurd b5 a5
      · exact absurd a5 b5
      · exact a6.trans b6.symm
theorem wr_unique {e e' : Ending} {n : Nat} {D C T : Nat → Int} {M : Nat → Bool} {B : Nat → ByteArray} (hs : bsum B n ≤ 67108864) (h : WrE e n D C T M B) (h' : WrE e' n D C T M B) : ∃ (x : ByteArray) (c q : Int), e = .returned (.tuple #[.string x, .int .i64 c, .int .i64 q]) ∧ e' = e := by
  have no : ∀ c q : Int, c ≠ 0 → CkR n D C T M B c q → (0 < n ∧ ∀ i, i < n → Good D C T M B i) → False := fun c q h0 hc hg => h0 (ck_unique hc (Or.inl ⟨hg.1, (fit_iff n D C T M B).2 hg.2, rfl, rfl⟩)).1
  rcases h with ⟨hg, H, σ, rfl, hI, hH⟩ | ⟨c, q, h0, hc, rfl⟩
  · rcases h' with ⟨_, H', σ', rfl, hI', hH'⟩ | ⟨c', q', h0', hc', rfl⟩
    · refine ⟨_, _, _, rfl, ?_⟩
      have hsh : ShI n 0 true H := ⟨fun _ j _ hj => by
        obtain ⟨len, e1, e2⟩ := hH j hj
        exact ⟨_, _, _, len, e1, says_wide len (by omega)⟩, fun h => by cases h⟩
      have := (forms_all hs hI hI' hH' hsh).2.1 rfl
      rw [this]
    · exact (no c' q' h0' hc' hg).elim
  · rcases h' with ⟨hg, H', σ', rfl, hI', hH'⟩ | ⟨c', q', h0', hc', rfl⟩
    · exact (no c q h0 hc hg).elim
    · obtain ⟨rfl, rfl⟩ := ck_unique hc hc'
      exact ⟨_, _, _, rfl, rfl⟩
end Go.Proofs.Ytgfonnjblbpogaa

namespace Go.Proofs.Ytgfonnjblbpogaa
open Go.RowKit
open BerMath (lo)
set_option linter.unusedVariables false

theorem fit_ge {D C T : Nat → Int} {M : Nat → Bool} {B : Nat → ByteArray} {j : Nat} (h : Fit D C T M B j) : 1 ≤ D j ∧ D j ≤ 64 := by
  refine ⟨?_, h.2⟩
  have h1 := h.1.1
  cases j with
  | zero => exact h1
  | succ j => have : (2 : Int) ≤ D (j + 1) := h1; omega
theorem ck_more {k : Nat} {D C T : Nat → Int} {M : Nat → Bool} {B : Nat → ByteArray} (h : ∀ i, i < k → Fit D C T M B i) (h' : Fit D C T M B k) : ∀ i, i < k + 1 → Fit D C T M B i := fun i hi => by
  by_cases e : i = k
  · subst e; exact h'
  · exact h i (by omega)
theorem meas_up (n k : Nat) (h : k < n) (hw : wrap64 ((k : Int) + 1) = (k : Int) + 1) : n - (intOf (.int .i64 (wrap64 ((k : Int) + 1)))).toNat < n - (intOf (.int .i64 (k : Int))).toNat := by
  rw [hw]
  show n - ((k : Int) + 1).toNat < n - (k : Int).toNat
  omega

set_option maxRecDepth 100000 in
set_option maxHeartbeats 4000000 in
theorem rWrite_any (a : Option Addr) (n c : Nat) (D C T : Nat → Int) (M : Nat → Bool) (B : Nat → ByteArray) (w : World) (hn : IsNodes w a n D C T M B) (hs : bsum B n ≤ 67108864) :
    Calls Try.prog 14 #[.slice a n c] w fun e w' => WrE e n D C T M B ∧ Below w.heap.size w w' := by
  have hnn : n ≤ 67108864 := by have := bsum_six B n; omega
  have HG : Hid (IsNodes w a n D C T M B ∧ bsum B n ≤ 67108864 ∧ n ≤ 67108864) := ⟨hn, hs, hnn⟩
  have hmk := make_ints n hnn
  clear hn hs hnn
  by_cases hn0 : n = 0
  · subst hn0
    go_enter Try.func14, Try.ntmps14
    go_wp2_with fail
    refine bodyPost_ret_by (v := .tuple #[.string ⟨#[]⟩, .int .i64 28, .int .i64 0]) (by simp [results, Try.results14]) rfl ⟨Or.inr ⟨28, 0, by decide, Or.inr (Or.inl ⟨rfl, rfl, rfl⟩), rfl⟩, Below.refl _ _⟩
  have e0n : ((n : Int) == 0) = false := by rw [beq_eq_false_iff_ne]; omega
  have hpos : Hid (0 < n) := by unfold Hid; omega
  clear hn0
  go_enter Try.func14, Try.ntmps14
  go_wp2_with fail
  go_loopw [5] (fun iv wr => ∃ (k : Nat), k ≤ n ∧ iv = .int .i64 (k : Int) ∧ Hid ((∀ i, i < k → Fit D C T M B i) ∧ Below w.heap.size w wr)) (fun iv _ => n - (intOf iv).toNat)
  case atStart => exact ⟨0, Nat.zero_le _, rfl, fun i hi => by omega, Below.refl _ _⟩
  case round =>
    obtain ⟨k, hk, rfl, HI⟩ := hrel
    have i0 : (0 : Int) ≤ (k : Int) := Int.natCast_nonneg _
    by_cases hlt : k < n
    · have i1 : (k : Int) < (n : Int) := Int.ofNat_lt.2 hlt
      clear hmk
      have HF : Hid (Calls Try.prog 38 #[.slice a n c, .int .i64 (k : Int)] wr fun r w' => (∃ g, r = .returned (.bool g) ∧ (g = true ↔ NdOk D C T M B k)) ∧ Below wr.heap.size wr w') := rfront_any a n c D C T M B k wr (HG.out.1.below HI.out.2) hlt (by have := HG.out.2.2; omega) (fun j hj => fit_ge (HI.out.1 j (by omega)))
      have hkw := wr_up k (by have := HG.out.2.2; omega)
      have hlt' : Hid (k < n) := hlt
      clear hk hlt
      go_wp2_with fail
      refine HF.out.mono ?_
      rintro r w1 ⟨⟨g, rfl, hg⟩, hb1⟩
      have HB1 : Hid (Below w.heap.size w w1) := HI.out.2.trans (hb1.mono HI.out.2.size)
      clear HF hb1
      cases g with
      | false =>
        have hfin : Hid (WrE (.returned (.tuple #[.string ⟨#[]⟩, .int .i64 28, .int .i64 (k : Int)])) n D C T M B) := Or.inr ⟨28, k, by decide, Or.inr (Or.inr ⟨k, hlt'.out, HI.out.1, rfl, Or.inl ⟨fun h => (by have := hg.2 h; cases this), rfl⟩⟩), rfl⟩
        clear hg HI
        go_wp2_with fail
        refine bodyPost_ret_by (v := .tuple #[.string ⟨#[]⟩, .int .i64 28, .int .i64 (k : Int)]) (by simp [results, Try.results14]) rfl ⟨hfin.out, HB1.out⟩
      | true =>
        have hok : Hid (NdOk D C T M B k) := hg.1 rfl
        clear hg
        obtain ⟨b, off, rfl, c0, c1, c2, c3, c4⟩ := (HG.out.1.below HB1.out) k hlt'.out
        by_cases q : D k > 64
        · have hfin : Hid (WrE (.returned (.tuple #[.string ⟨#[]⟩, .int .i64 25, .int .i64 (k : Int)])) n D C T M B) := Or.inr ⟨25, k, by decide, Or.inr (Or.inr ⟨k, hlt'.out, HI.out.1, rfl, Or.inr ⟨hok.out, by omega, rfl⟩⟩), rfl⟩
          clear HI c1 c2 c3 c4
          go_wp2_with fail
          refine bodyPost_ret_by (v := .tuple #[.string ⟨#[]⟩, .int .i64 25, .int .i64 (k : Int)]) (by simp [results, Try.results14]) rfl ⟨hfin.out, HB1.out⟩
        · have hnext : Hid (∀ i, i < k + 1 → Fit D C T M B i) := ck_more HI.out.1 ⟨hok.out, by omega⟩
          clear HI c1 c2 c3 c4
          go_wp2_with fail
          exact ⟨⟨k + 1, hlt'.out, congrArg (Value.int .i64) (by rw [hkw]; omega), hnext.out, HB1.out⟩, meas_up n k hlt'.out hkw⟩
    · obtain rfl : k = n := by omega
      have i1 : ¬ (k : Int) < (k : Int) := by omega
      have HGd : Hid (∀ i, i < k → Good D C T M B i) := (fit_iff k D C T M B).1 HI.out.1
      have HB1 : Hid (Below w.heap.size w wr) := HI.out.2
      have hw1 : wrap64 ((k : Int) - 1) = (k : Int) - 1 := by have := HG.out.2.2; unfold wrap64; omega
      clear HI hlt hk
      obtain ⟨w1, hw1e⟩ : ∃ w1, wr = w1 := ⟨_, rfl⟩
      have hw1f := hw1e.symm
      clear hw1e
      subst hw1f
      go_wp2_with fail
      go_loopw [9] (fun iv wr => ∃ (K : Nat) (σ : List Nat) (H : Nat → List UInt8) (Ls : Nat → Nat), K ≤ k ∧ iv = .int .i64 ((K : Int) - 1) ∧ Hid (SpI k K D C T M B σ H ∧ (∀ j, K ≤ j → j < k → HSh C T M Ls H j) ∧ MsG w1 wr k K σ Ls)) (fun iv _ => (intOf iv + 1).toNat)
      case atStart =>
        refine ⟨k, _, _, (fun _ => 0), Nat.le_refl _, by go_num, ⟨spI_start k hpos.out D C T M B, fun j h1 h2 => by omega, ?_, ?_, ?_⟩⟩
        · exact (num_new w1).of (Below.heap_alloc _ _ _ (by simp))
        · have := len_new (w1.alloc (.cells sZ 82)) k
          simpa using this
        · exact ((Below.refl _ _).alloc (Nat.le_refl _) _).alloc (by simp) _
      case round =>
        obtain ⟨K, σ, H, Ls, hK, rfl, HI⟩ := hrel
        clear hw1 hmk
        cases K with
        | zero =>
          have ez : (((0 : Nat) : Int) - 1) = -1 := by omega
          rw [ez]
          have hR : Hid (SpI k 0 D C T M B σ H ∧ ∀ j, j < k → ∃ len, H j = hdrL (C j).toNat (M j) (T j).toNat len (ll len) ∧ len ≤ 67108864) := ⟨HI.out.1, fun j hj => ⟨_, (HI.out.2.1 j (Nat.zero_le _) hj).1, (HI.out.2.1 j (Nat.zero_le _) hj).2⟩⟩
          have hH' : Hid (∀ j, j < k → H j = hdrL (C j).toNat (M j) (T j).toNat (Ls j) (ll (Ls j)) ∧ Ls j ≤ 67108864) := fun j hj => HI.out.2.1 j (Nat.zero_le _) hj
          have hLB : Hid (LenB wr (w1.heap.size + 1) k 0 Ls) := HI.out.2.2.2.1
          have hw12 : Hid (w1.heap.size + 1 < wr.heap.size) := HI.out.2.2.2.1.lt
          have HB2 : Hid (Below w.heap.size w wr) := HB1.out.trans (HI.out.2.2.2.2.mono HB1.out.size)
          have hlen : Hid (∀ j, j ≤ k → (outB H B 0 j).length ≤ 67108864) := by
            unfold Hid
            intro j hj
            obtain ⟨len, kk, rest, r1, r2, r3, r4⟩ := spI_end hpos.out HI.out.1
            have h1 := outB_le H B k j hj
            have h2 : (outB H B 0 k).length = 2 + kk + len := by rw [r1, List.length_append, hdrL_len, r3]
            have := HG.out.2.1
            omega
          clear HI hK
          obtain ⟨w2, hw2e⟩ : ∃ w2, wr = w2 := ⟨_, rfl⟩
          have hw2f := hw2e.symm
          clear hw2e
          subst hw2f
          go_wp2_with fail
          go_loopw [12, 13] (fun ov iv wr => ∃ (j : Nat) (vo : Value), ov = vo ∧ j ≤ k ∧ iv = .int .i64 (j : Int) ∧ Hid (Own wr w2.heap.size vo (outB H B 0 j) ∧ Below w2.heap.size w2 wr)) (fun _ iv _ => k - (intOf iv).toNat)
          case atStart => exact ⟨0, _, rfl, Nat.zero_le _, rfl, own_nil _ _, Below.refl _ _⟩
          case round =>
            obtain ⟨j, vo, hvo, hj, rfl, HO⟩ := hrel
            have hvo' := hvo.symm
            clear hvo
            subst hvo'
            have j0 : (0 : Int) ≤ (j : Int) := Int.natCast_nonneg _
            by_cases hlt : j < k
            · have j1 : (j : Int) < (k : Int) := Int.ofNat_lt.2 hlt
              obtain ⟨b, off, rfl, c0, c1, c2, c3, c4⟩ := ((HG.out.1.below HB2.out).below HO.out.2) j hlt
              obtain ⟨gd1, gd2, gd3, gd4, _⟩ := HGd.out j hlt
              have l1 : wr.cell? ⟨w1.heap.size + 1, j, none⟩ = some (.int .i64 (Ls j : Int)) := (HO.out.2.cell hw12.out).trans (hLB.out.at j (Nat.zero_le _) hlt)
              have hs2 : w2.heap.size ≤ wr.heap.size := HO.out.2.size
              have hbw : Hid (b < wr.heap.size ∧ w1.heap.size + 1 < wr.heap.size) := ⟨World.block_lt_of_cell? wr _ c0, Nat.lt_of_lt_of_le hw12.out hs2⟩
              have hl1 : Hid ((outB H B 0 j).length ≤ 67108864 ∧ (outB H B 0 (j + 1)).length ≤ 67108864) := ⟨hlen.out j hj, hlen.out (j + 1) hlt⟩
              obtain ⟨cl, hc⟩ : ∃ d : Nat, C j = (d : Int) := ⟨(C j).toNat, by omega⟩
              obtain ⟨t, ht⟩ : ∃ d : Nat, T j = (d : Int) := ⟨(T j).toNat, by omega⟩
              obtain ⟨m, hm⟩ : ∃ m, M j = m := ⟨_, rfl⟩
              obtain ⟨s, hs⟩ : ∃ s, B j = s := ⟨_, rfl⟩
              have hct : Hid (cl ≤ 3 ∧ t ≤ 30 ∧ Ls j ≤ 67108864) := ⟨by omega, by omega, (hH'.out j hlt).2⟩
              have hsn : Hid (outB H B 0 (j + 1) = (outB H B 0 j ++ (fb cl m t :: lenB (Ls j))) ++ s.data.toList) := by
                unfold Hid
                rw [outB_snoc, (hH'.out j hlt).1, hdr_short, hc, ht, hm, hs, Int.toNat_natCast, Int.toNat_natCast, List.append_assoc]
              have hwj := wr_up j (by have := HG.out.2.2; omega)
              have hlt' : Hid (j < k) := hlt
              rw [hc] at c1
              rw [hm] at c2
              rw [ht] at c3
              rw [hs] at c4
              obtain ⟨Lj, hLj⟩ : ∃ x, Ls j = x := ⟨_, rfl⟩
              rw [hLj] at l1 hsn hct
              have hP : Hid (∀ W, Calls Try.prog 39 #[.int .i64 (cl : Int), .bool m, .int .i64 (t : Int), .int .i64 (Lj : Int)] W fun r w' => ∃ v', r = .returned v' ∧ Own w' W.heap.size v' (fb cl m t :: lenB Lj) ∧ Below W.heap.size W w') := fun W => refHeader_any cl t m Lj W hct.out.1 hct.out.2.1 (by have := hct.out.2.2; omega)
              have hSf : Hid (∀ w5, Below wr.drew.heap.size wr.drew w5 → w5.cell? ⟨b, off + j * 5 + 1, none⟩ = some (.int .i64 (cl : Int)) ∧ w5.cell? ⟨b, off + j * 5 + 2, none⟩ = some (.bool m) ∧ w5.cell? ⟨b, off + j * 5 + 3, none⟩ = some (.int .i64 (t : Int)) ∧ w5.cell? ⟨w1.heap.size + 1, j, none⟩ = some (.int .i64 (Lj : Int))) := fun w5 hb5 => ⟨(hb5.cell hbw.out.1).trans c1, (hb5.cell hbw.out.1).trans c2, (hb5.cell hbw.out.1).trans c3, (hb5.cell hbw.out.2).trans l1⟩
              clear hc ht hm hs hLj gd1 gd2 gd3 gd4 hj hlt c0
              go_upto_region 29 with fail
              go_region_held3 (fun w' => w'.cell? ⟨b, off + j * 5 + 1, none⟩ = some (.int .i64 (cl : Int)) ∧ w'.cell? ⟨b, off + j * 5 + 2, none⟩ = some (.bool m) ∧ w'.cell? ⟨b, off + j * 5 + 3, none⟩ = some (.int .i64 (t : Int)) ∧ w'.cell? ⟨w1.heap.size + 1, j, none⟩ = some (.int .i64 (Lj : Int)))
                (first | exact ⟨c1, c2, c3, l1⟩ | exact hS5)
                (first | (go_at_call 39; refine (hP.out _).mono ?_; rintro r w5 ⟨v5, rfl, ho5, hb5⟩; have hS5 := hSf.out w5 hb5))
              have ho : Own w5 w2.heap.size vo (outB H B 0 j) := ownB_below (World.ownsRow.drew HO.out.1) hb5
              obtain ⟨v6, w6, e6, o6, b6⟩ := appendB_row w5 w2.heap.size vo _ _ v5 _ ho ho5 (by simp) (Nat.le_trans hs2 hb5.size) (by have := hl1.out.2; rw [hsn.out, List.length_append, List.length_append] at this; omega)
              have hb6 : Hid (Below w2.heap.size w2 w6) := (HO.out.2.trans ((belowN (Below.refl _ _) 1).trans (hb5.mono hs2))).trans b6
              have hbw2 : b < w2.heap.size := by
                obtain ⟨b', off', e', q0, _⟩ := (HG.out.1.below HB2.out) j hlt'.out
                injection e' with e'
                injection e' with e1 e2
                subst e1 e2
                exact World.block_lt_of_cell? w2 _ q0
              have c6 : w6.cell? ⟨b, off + j * 5 + 4, none⟩ = some (.string s) := (b6.cell hbw2).trans ((hb5.cell hbw.out.1).trans c4)
              clear hS5 hSf hP c1 c2 c3 c4 l1 ho ho5 hb5 HO b6 hbw2 hbw
              go_upto_region 31 with (at_builtin; refine Lib.wpList_append_run _ rfl _ _ _ _ rfl _ _ rfl rfl _ _ e6 ?_; clear e6)
              have hs6 : w2.heap.size ≤ w6.heap.size := hb6.out.size
              have hl2 : Hid ((outB H B 0 j ++ (fb cl m t :: lenB Lj)).length + s.size ≤ 1099511627776) := by
                have h := hl1.out.2
                rw [hsn.out, List.length_append, size_l] at h
                unfold Hid
                omega
              go_wp2_with (at_builtin; refine push_str _ rfl _ _ rfl w2.heap.size _ (outB H B 0 j ++ (fb cl m t :: lenB Lj)) s rfl rfl ?_ ?_ ?_ ?_; (exact o6); (exact hs6); (exact hl2.out); intro v7 w7 hown7 hb7)
              exact ⟨⟨j + 1, v7, rfl, hlt'.out, congrArg (Value.int .i64) (by rw [hwj]; omega), by rw [hsn.out]; exact hown7, hb6.out.trans hb7⟩, meas_up k j hlt'.out hwj⟩
            · obtain rfl : j = k := by omega
              have j1 : ¬ (j : Int) < (j : Int) := by omega
              have hback := own_back_any (P := Try.prog) wr w2.heap.size 50 9 5 _ _ _ Try.underlying50 Try.underlying5 Try.underlying9 HO.out.1
              have hfin : Hid (WrE (.returned (.tuple #[.string (S (outB H B 0 j)), .int .i64 0, .int .i64 0])) j D C T M B ∧ Below w.heap.size w wr) := ⟨Or.inl ⟨⟨hpos.out, HGd.out⟩, H, σ, rfl, hR.out⟩, HB2.out.trans (HO.out.2.mono HB2.out.size)⟩
              clear hR HGd HO
              go_wp2_with fail
              refine bodyPost_ret_by (v := .tuple #[.string (S (outB H B 0 j)), .int .i64 0, .int .i64 0]) (by simp [results, Try.results14]; try rfl) rfl hfin.out
        | succ i =>
          have i0 : (0 : Int) ≤ (i : Int) := Int.natCast_nonneg _
          have i1 : (i : Int) < (k : Int) := Int.ofNat_lt.2 hK
          have ei : (((i + 1 : Nat) : Int) - 1) = (i : Int) := by omega
          rw [ei]
          obtain ⟨b, off, rfl, c0, c1, c2, c3, c4⟩ := ((HG.out.1.below HB1.out).below HI.out.2.2.2.2) i hK
          obtain ⟨gd1, gd2, gd3, gd4, gd5, gd6, _⟩ := HGd.out i hK
          have hLe := spL_le hK HI.out.1
          have hsb := HG.out.2.1
          obtain ⟨d, hd⟩ : ∃ d : Nat, D i = (d : Int) := ⟨(D i).toNat, by omega⟩
          obtain ⟨cl, hcl⟩ : ∃ d : Nat, C i = (d : Int) := ⟨(C i).toNat, by omega⟩
          obtain ⟨t, ht⟩ : ∃ d : Nat, T i = (d : Int) := ⟨(T i).toNat, by omega⟩
          obtain ⟨e1, e2⟩ := ms_len hK HI.out.1 HGd.out d hd
          obtain ⟨L, hL⟩ : ∃ L, spL D M B σ i = L := ⟨_, rfl⟩
          obtain ⟨H', q1, q2⟩ := ms_step hK HI.out.1 HGd.out hsb HI.out.2.1 d hd L hL
          have hLm : Hid ((M i = true → σ.getD (d + 1) 0 = L) ∧ (M i = false → (B i).size = L)) := by
            unfold Hid
            have hdn : (D i).toNat = d := by omega
            refine ⟨fun hM => ?_, fun hM => ?_⟩
            · rw [← hL]; unfold spL BhSpM.len; rw [hM, if_pos rfl, hdn]
            · rw [← hL]; unfold spL BhSpM.len; rw [hM]; rfl
          have hσe : Hid (M i = false → σ = σ.set (d + 1) 0) := fun hM => by rw [← e2, hM]; rfl
          rw [hL] at e1 hLe
          have hL64 : L ≤ 67108864 := Nat.le_trans hLe.1 hsb
          have hσ : Hid (σ.length = 66) := HI.out.1.1
          obtain ⟨x, hx⟩ : ∃ x, σ.getD (d + 1) 0 = x := ⟨_, rfl⟩
          have hx' : Hid (σ.getD (d + 1) 0 = x) := hx
          obtain ⟨y, hy⟩ : ∃ y, (σ.set (d + 1) 0).getD d 0 = y := ⟨_, rfl⟩
          have hy' : Hid ((σ.set (d + 1) 0).getD d 0 = y) := hy
          have hyb : y ≤ 67108864 := by
            rw [← hy, BhSpM.getD_set_other _ _ _ _ (by omega)]
            exact Nat.le_trans (hLe.2 d) hsb
          obtain ⟨s, hs⟩ : ∃ s, B i = s := ⟨_, rfl⟩
          obtain ⟨m, hm⟩ : ∃ m, M i = m := ⟨_, rfl⟩
          rw [hs] at c4
          rw [hd] at c0
          rw [hcl] at c1
          rw [hm] at c2
          rw [ht] at c3
          rw [hm, hs, hx] at hLm
          rw [hm] at hσe
          have he64 : d ≤ 64 := by omega
          have hll := ll_le L
          have wd : Hid _ := wr_one d (by omega)
          have hct : Hid (cl ≤ 3 ∧ t ≤ 30 ∧ L ≤ 67108864) := ⟨by omega, by omega, hL64⟩
          have w3 : Hid _ := wr_sum y (2 + ll L) (y + (2 + ll L)) rfl (by omega)
          have w4 : Hid _ := wr_sum (y + (2 + ll L)) L (y + (2 + ll L) + L) rfl (by omega)
          have wp' : Hid _ := wr_pred i k hK HG.out.2.2
          have HM : Hid (MsG w1 wr k (i + 1) σ Ls) := HI.out.2.2
          have hin : Hid (i < k) := hK
          have HF : Hid (∀ W, MsG w1 W k i ((σ.set (d + 1) 0).set d (y + (2 + ll L) + L)) (updL Ls i L) → SpI k i D C T M B ((σ.set (d + 1) 0).set d (y + (2 + ll L) + L)) H' ∧ (∀ j, i ≤ j → j < k → HSh C T M (updL Ls i L) H' j) ∧ MsG w1 W k i ((σ.set (d + 1) 0).set d (y + (2 + ll L) + L)) (updL Ls i L)) := fun W hW => by
            rw [hy] at q1
            exact ⟨q1, q2, hW⟩
          have hHS : Hid (∀ W, Calls Try.prog 39 #[.int .i64 (cl : Int), .bool m, .int .i64 (t : Int), .int .i64 (L : Int)] W fun r w' => ∃ v', r = .returned v' ∧ Own w' W.heap.size v' (fb cl m t :: lenB L) ∧ Below W.heap.size W w') := fun W => refHeader_any cl t m L W hct.out.1 hct.out.2.1 (by have := hct.out.2.2; omega)
          have hLen : Hid ((fb cl m t :: lenB L).length = 2 + ll L) := by unfold Hid; rw [List.length_cons, lenB_len]; omega
          have hL4 : ¬ (L : Int) > 4294967295 := by omega
          have d0 : (0 : Int) ≤ (d : Int) := Int.natCast_nonneg _
          have d1 : (d : Int) < 66 := by omega
          have d2 : (0 : Int) ≤ ((d + 1 : Nat) : Int) := Int.natCast_nonneg _
          have d3 : ((d + 1 : Nat) : Int) < 66 := by omega
          have he66 : Hid (d + 1 < 66 ∧ d < 66) := ⟨by omega, by omega⟩
          have hgl : Hid (w1.heap.size + 1 < wr.heap.size) := HM.out.2.1.lt
          obtain ⟨ds, hds⟩ : ∃ ds, ds = d + 1 := ⟨_, rfl⟩
          rw [← hds] at wd d2 d3
          have hds' : Hid (ds = d + 1) := hds
          obtain ⟨h2, hh2⟩ : ∃ h2, h2 = 2 + ll L := ⟨_, rfl⟩
          rw [← hh2] at w3 w4 HF hLen
          obtain ⟨yh, hyh⟩ : ∃ z, z = y + h2 := ⟨_, rfl⟩
          rw [← hyh] at w3 w4 HF
          obtain ⟨uu, huu⟩ : ∃ uu, uu = yh + L := ⟨_, rfl⟩
          rw [← huu] at w4 HF
          obtain ⟨wd1, wd2⟩ := wd.out
          obtain ⟨w31, w32⟩ := w3.out
          obtain ⟨w41, w42⟩ := w4.out
          have wp := wp'.out
          clear wd w3 w4 wp'
          clear HI HG HGd hK hLe hsb gd1 gd2 gd3 gd4 gd5 gd6 e1 e2 hL hL64 hx hy hyb hs hm hd hcl ht he64 hll hds hh2 hyh huu q1 q2
          have HX : Hid (Box (wr.alloc (.cells #[.int .i64 (d : Int), .int .i64 (cl : Int), .bool m, .int .i64 (t : Int), .string s] 39)) wr.heap.size 39 #[.int .i64 (d : Int), .int .i64 (cl : Int), .bool m, .int .i64 (t : Int), .string s]) := Box.new _ _ _
          have HM1 : Hid (MsG w1 (wr.alloc (.cells #[.int .i64 (d : Int), .int .i64 (cl : Int), .bool m, .int .i64 (t : Int), .string s] 39)) k (i + 1) σ Ls) := HM.out.of ((Below.refl _ _).alloc (Nat.le_refl _) _)
          go_upto_region 17 with fail
          clear c0 c1 c2 c3 c4 HM
          obtain ⟨W1, hW1⟩ : ∃ W1, wr.alloc (.cells #[.int .i64 (d : Int), .int .i64 (cl : Int), .bool m, .int .i64 (t : Int), .string s] 39) = W1 := ⟨_, rfl⟩
          rw [hW1] at HX HM1 ⊢
          obtain ⟨g, hg⟩ : ∃ g, wr.heap.size = g := ⟨_, rfl⟩
          rw [hg] at HX hgl ⊢
          clear hW1 hg
          obtain ⟨xl, l1, l2⟩ := HM1.out.2.1.any i hin.out
          have b4 := (at_of HX.out (j := 4) (v := .string s) rfl).1
          have b2 := (at_of HX.out (j := 2) (v := .bool m) rfl).1
          go_upto_region 18 with fail
          have HM2 : Hid (MsG w1 (W1.setCell ⟨w1.heap.size + 1, i, none⟩ (.int .i64 (s.size : Int))) k i σ (updL Ls i s.size)) := HM1.out.len hin.out s.size
          have HX2 : Hid (Box (W1.setCell ⟨w1.heap.size + 1, i, none⟩ (.int .i64 (s.size : Int))) g 39 #[.int .i64 (d : Int), .int .i64 (cl : Int), .bool m, .int .i64 (t : Int), .string s]) := box_set HX.out (by have := hgl.out; omega)
          clear HM1 HX b2 b4 l1 l2
          obtain ⟨W2, hW2⟩ : ∃ W2, W1.setCell ⟨w1.heap.size + 1, i, none⟩ (.int .i64 (s.size : Int)) = W2 := ⟨_, rfl⟩
          rw [hW2] at HM2 HX2 ⊢
          clear hW2
          have b0 := (at_of HX2.out (j := 0) (v := .int .i64 (d : Int)) rfl).1
          have b2 := (at_of HX2.out (j := 2) (v := .bool m) rfl).1
          obtain ⟨s1, s2⟩ := HM2.out.1.at ds (by rw [hds'.out]; exact he66.out.1)
          rw [hds'.out, hx'.out, ← hds'.out] at s1
          obtain ⟨xl, l1, l2⟩ := HM2.out.2.1.any i hin.out
          have key : m = true ∨ m = false := by cases m <;> simp
          rcases key with rfl | rfl
          case' inl =>
            go_upto_region 20 with fail
            have HM3 : Hid (MsG w1 (W2.setCell ⟨w1.heap.size + 1, i, none⟩ (.int .i64 (x : Int))) k i σ (updL Ls i L)) := by
              have := HM2.out.len2 _ hin.out x
              have e := hLm.out.1 rfl
              rw [← e]
              exact this
            have HX3 : Hid (Box (W2.setCell ⟨w1.heap.size + 1, i, none⟩ (.int .i64 (x : Int))) g 39 #[.int .i64 (d : Int), .int .i64 (cl : Int), .bool true, .int .i64 (t : Int), .string s]) := box_set HX2.out (by have := hgl.out; omega)
            clear HM2 HX2 b0 b2 s1 s2 l1 l2
            obtain ⟨W3, hW3⟩ : ∃ W3, W2.setCell ⟨w1.heap.size + 1, i, none⟩ (.int .i64 (x : Int)) = W3 := ⟨_, rfl⟩
            rw [hW3] at HM3 HX3 ⊢
            clear hW3
            have b0 := (at_of HX3.out (j := 0) (v := .int .i64 (d : Int)) rfl).1
            obtain ⟨s1, s2⟩ := HM3.out.1.at ds (by rw [hds'.out]; exact he66.out.1)
            go_upto_region 21 with fail
            have HM4 : Hid (MsG w1 (W3.setCell ⟨w1.heap.size, ds, none⟩ (.int .i64 0)) k i (σ.set (d + 1) 0) (updL Ls i L)) := by
              have := HM3.out.num hσ.out (d + 1) he66.out.1 0
              rw [← hds'.out] at this ⊢
              exact this
            have HX4 : Hid (Box (W3.setCell ⟨w1.heap.size, ds, none⟩ (.int .i64 0)) g 39 #[.int .i64 (d : Int), .int .i64 (cl : Int), .bool true, .int .i64 (t : Int), .string s]) := box_set HX3.out (by have := hgl.out; omega)
            clear HM3 HX3 b0 s1 s2
            obtain ⟨W4, hW4⟩ : ∃ W4, W3.setCell ⟨w1.heap.size, ds, none⟩ (.int .i64 0) = W4 := ⟨_, rfl⟩
            rw [hW4] at HM4 HX4 ⊢
            clear hW4 hLm hσe
            obtain ⟨m, hm⟩ : ∃ m, true = m := ⟨_, rfl⟩
            rw [hm] at HX4 hHS hLen
            clear hm
          case' inr =>
            go_upto_region 21 with fail
            have HM4 : Hid (MsG w1 W2 k i (σ.set (d + 1) 0) (updL Ls i L)) := by
              have e := hLm.out.2 rfl
              have := HM2.out
              rw [e, hσe.out rfl] at this
              exact this
            have HX4 := HX2
            clear HM2 HX2 b0 b2 s1 s2 l1 l2
            obtain ⟨W4, hW4⟩ : ∃ W4, W2 = W4 := ⟨_, rfl⟩
            rw [hW4] at HM4 HX4 ⊢
            clear hW4 hLm hσe
            obtain ⟨m, hm⟩ : ∃ m, false = m := ⟨_, rfl⟩
            rw [hm] at HX4 hHS hLen
            clear hm
          all_goals
            have lA := HM4.out.2.1.at i (Nat.le_refl _) hin.out
            have eL : updL Ls i L i = L := by unfold updL; rw [if_pos rfl]
            rw [eL] at lA
            clear eL
            go_upto_region 23 with fail
            have b1 := (at_of HX4.out (j := 1) (v := .int .i64 (cl : Int)) rfl).1
            have b3 := (at_of HX4.out (j := 3) (v := .int .i64 (t : Int)) rfl).1
            have b2 : W4.cell? ⟨g, 2, none⟩ = some (.bool m) := (at_of HX4.out (j := 2) rfl).1
            have hgW : Hid (g < W4.heap.size ∧ w1.heap.size + 1 < W4.heap.size) := ⟨HX4.out.lt, HM4.out.2.1.lt⟩
            have hSf : Hid (∀ w5, Below W4.drew.heap.size W4.drew w5 → w5.cell? ⟨g, 1, none⟩ = some (.int .i64 (cl : Int)) ∧ w5.cell? ⟨g, 2, none⟩ = some (.bool m) ∧ w5.cell? ⟨g, 3, none⟩ = some (.int .i64 (t : Int)) ∧ w5.cell? ⟨w1.heap.size + 1, i, none⟩ = some (.int .i64 (L : Int))) := fun w5 hb5 => ⟨(hb5.cell hgW.out.1).trans b1, (hb5.cell hgW.out.1).trans b2, (hb5.cell hgW.out.1).trans b3, (hb5.cell hgW.out.2).trans lA⟩
            go_region_held3 (fun w' => w'.cell? ⟨g, 1, none⟩ = some (.int .i64 (cl : Int)) ∧ w'.cell? ⟨g, 2, none⟩ = some (.bool m) ∧ w'.cell? ⟨g, 3, none⟩ = some (.int .i64 (t : Int)) ∧ w'.cell? ⟨w1.heap.size + 1, i, none⟩ = some (.int .i64 (L : Int)))
              (first | exact ⟨b1, b2, b3, lA⟩ | exact hS5)
              (first | (go_at_call 39; refine (hHS.out _).mono ?_; rintro r w5 ⟨v5, rfl, ho5, hb5⟩; have hS5 := hSf.out w5 hb5))
            obtain ⟨a5, c5, hv5⟩ := own_slice ho5
            rw [hLen.out] at hv5
            subst hv5
            have HM5 : Hid (MsG w1 w5 k i (σ.set (d + 1) 0) (updL Ls i L)) := HM4.out.drew.of hb5
            have HX5 : Hid (Box w5 g 39 #[.int .i64 (d : Int), .int .i64 (cl : Int), .bool m, .int .i64 (t : Int), .string s]) := HX4.out.of (hb5.block _ hgW.out.1)
            have l5 := hS5.2.2.2
            clear hS5 hSf HM4 HX4 b1 b2 b3 lA hHS ho5 hb5 hgW
            obtain ⟨W5, hW5⟩ : ∃ W5, w5 = W5 := ⟨_, rfl⟩
            rw [hW5] at HM5 HX5 l5 ⊢
            clear hW5
            obtain ⟨v1, v2⟩ := HM5.out.1.at d he66.out.2
            rw [hy'.out] at v1
            have v0 := (at_of HX5.out (j := 0) (v := .int .i64 (d : Int)) rfl).1
            have v3 : W5.drew.cell? ⟨w1.heap.size, d, none⟩ = some (.int .i64 (y : Int)) := v1
            have v4 : W5.drew.frozen? ⟨w1.heap.size, d, none⟩ = false := v2
            have v5 : W5.drew.cell? ⟨g, 0, none⟩ = some (.int .i64 (d : Int)) := v0
            have v6 : W5.drew.cell? ⟨w1.heap.size + 1, i, none⟩ = some (.int .i64 (L : Int)) := l5
            go_upto_region 24 with fail
            go_region
            have HM6 : Hid (MsG w1 (W5.drew.setCell ⟨w1.heap.size, d, none⟩ (.int .i64 (uu : Int))) k i ((σ.set (d + 1) 0).set d uu) (updL Ls i L)) := HM5.out.drew.num (by rw [List.length_set]; exact hσ.out) d he66.out.2 uu
            have hsp : (W5.setCell ⟨w1.heap.size, d, none⟩ (.int .i64 (uu : Int))).drew = W5.drew.setCell ⟨w1.heap.size, d, none⟩ (.int .i64 (uu : Int)) := rfl
            try rw [hsp]
            obtain ⟨W6, hW6⟩ : ∃ W6, W5.drew.setCell ⟨w1.heap.size, d, none⟩ (.int .i64 (uu : Int)) = W6 := ⟨_, rfl⟩
            rw [hW6] at HM6 ⊢
            clear hsp hW6 HM5 HX5 v0 v1 v2 v3 v4 v5 v6 l5
            go_wp2_with fail
            refine ⟨⟨i, _, _, _, Nat.le_of_lt hin.out, by rw [wp], HF.out _ HM6.out⟩, ?_⟩
            rw [wp]
            show ((i : Int) - 1 + 1).toNat < ((i : Int) + 1).toNat
            omega
end Go.Proofs.Ytgfonnjblbpogaa

namespace Go.Proofs.Ytgfonnjblbpogaa
open Go.RowKit
set_option linter.unusedVariables false

theorem add_offN (b o j : Nat) : (⟨b, o, none⟩ : Addr).add j = ⟨b, o + j, none⟩ := by unfold Addr.add; split <;> simp_all
theorem nv_app (l k : List Nd) : nv (l ++ k) = nv l ++ nv k := by simp [nv]
theorem nv_one (l : List Nd) : ∀ u ∈ nv l, u.oneCell' = true := by
  intro u hu
  obtain ⟨x, _, hx⟩ := List.mem_flatMap.1 hu
  exact ndV_one x u hx
/-- A row of nodes appended to a row of the call's own. -/
theorem appendN_run (w : World) (B : Nat) (v : Value) (l k : List Nd) (a : Option Addr) (c : Nat) (hown : OwnN w B v l) (hk : NdRow w a k) (hB : B ≤ w.heap.size) (hsz : (l.length + k.length) * 48 ≤ 140737488355328) :
    ∃ v' w', (Builtin.append_ #[33, 33] 33 #[v, .slice a k.length c]).run Try.prog w = .ok v' w' ∧ OwnN w' B v' (l ++ k) ∧ Below B w w' ∧ ∀ g, g < w.heap.size → v.ownBlock ≠ some g → w'.heap[g]? = w.heap[g]? := by
  obtain ⟨i0, hi, hz0, hz1, hz2⟩ := info_parts info_node
  by_cases h0 : k.length = 0
  · have hk0 := List.eq_nil_of_length_eq_zero h0
    subst hk0
    refine ⟨v, w, ?_, by rw [List.append_nil]; exact hown, Below.refl _ _, fun _ _ _ => rfl⟩
    cases a with
    | none =>
      rcases hown.2 with ⟨rfl, hn⟩ | ⟨g, cap, cur, rfl, _, _, hc, _⟩
      · simp [Builtin.append_, run_underlying Try.underlying33, sizeOf, typeInfo, hi, Builtin.lenOf, Builtin.firstCells]
      · simp [Builtin.append_, run_underlying Try.underlying33, sizeOf, typeInfo, hi, Builtin.lenOf, Builtin.firstCells, hc, storeCells]
    | some d =>
      rcases hown.2 with ⟨rfl, hn⟩ | ⟨g, cap, cur, rfl, _, _, hc, _⟩
      · simp [Builtin.append_, run_underlying Try.underlying33, sizeOf, typeInfo, hi, Builtin.lenOf, Builtin.firstCells, loadCells, loadCellsFrom]
      · simp [Builtin.append_, run_underlying Try.underlying33, sizeOf, typeInfo, hi, Builtin.lenOf, Builtin.firstCells, loadCells, loadCellsFrom, hc, storeCells]
  · obtain ⟨b, off, rfl, _⟩ := hk 0 (by omega)
    have hnews : ∀ j u, (nv k)[j]? = some u → w.cell? ((⟨b, off, none⟩ : Addr).add j) = some u := by
      intro j u hj
      have hjn : j < k.length * 5 := by
        rcases Nat.lt_or_ge j (k.length * 5) with h' | h'
        · exact h'
        · rw [List.getElem?_eq_none (by rw [nv_len]; exact h')] at hj; cases hj
      obtain ⟨i, r, rfl, hr⟩ : ∃ i r, j = i * 5 + r ∧ r < 5 := ⟨j / 5, j % 5, by omega, Nat.mod_lt _ (by decide)⟩
      have hi' : i < k.length := by omega
      rw [nv_at k i hi' r hr] at hj
      obtain ⟨b', off', e, q0, q1, q2, q3, q4⟩ := hk i hi'
      have e1 : b = b' := congrArg Addr.block (Option.some.inj e)
      have e2 : off = off' := congrArg Addr.off (Option.some.inj e)
      subst e1 e2
      rw [add_offN, ← hj]
      rcases r with _ | _ | _ | _ | _ | r
      · exact q0
      · rw [← Nat.add_assoc]; exact q1
      · rw [← Nat.add_assoc]; exact q2
      · rw [← Nat.add_assoc]; exact q3
      · rw [← Nat.add_assoc]; exact q4
      · omega
    obtain ⟨g, cap, w', hr, h2, h3, _, _⟩ := run_append_lies (P := Try.prog) w 33 33 B 39 i0 _ 5 48 Try.underlying33 hi hz0 hz1 hz2 rfl (by decide) v l.length (nv l) hown ⟨b, off, none⟩ k.length c (nv k) (nv_len k) hnews (nv_one _) (by omega) (by unfold maxLen; omega) hsz hB w.heap.size rfl
    refine ⟨_, w', hr, ?_, (Below.refl _ _).grown h3 hB (fun j hj => (World.ownsRow.lt (show w.ownsRow B 39 5 v l.length (nv l) from hown) _ hj).1), fun g hg hne => h3.block g hg (fun e => hne e.symm)⟩
    unfold OwnN
    rw [nv_app, List.length_append]
    exact h2
/-- The same, at a step of a region that draws its order. -/
theorem step_nodes (w : World) {ops : Array Oper} {o : Oper} {a : Act} {K : Act → World → Prop} {Q : Exit → Act → World → Prop} {E : Prop} (hgd : o.guard = none) (s x : Operand)
    (ho : o.op = .call { callee := .builtin .append, args := #[s, x], argTypes := #[33, 33] }) (hty : o.type = 33) (B : Nat) (l k : List Nd) (ad : Option Addr) (c : Nat) (v : Value)
    (hs : a.eval s = v) (hx : a.eval x = .slice ad k.length c) (hown : OwnN w B v l) (hk : NdRow w ad k) (hB : B ≤ w.heap.size) (hsz : (l.length + k.length) * 48 ≤ 140737488355328)
    (h : ∀ v' w', OwnN w' B v' (l ++ k) → Below B w w' → (∀ g, g < w.heap.size → v.ownBlock ≠ some g → w'.heap[g]? = w.heap[g]?) → K (a.put o.dst v') w') :
    if Region.wanted o (yielded ops a.tmps) = true then Oper.wp Try.prog o a w K Q else E := by
  obtain ⟨v', w', hr, h1, h2, h3⟩ := appendN_run w B v l k ad c hown hk hB hsz
  have hw : Region.wanted o (yielded ops a.tmps) = true := by simp [Region.wanted, hgd]
  rw [if_pos hw]
  unfold Oper.wp execOp
  simp only [ho, hty, resolve, invoke, builtin, Sem.run_bind, Sem.run_pure, Result.andThen_ok, List.map_toArray, List.map_cons, List.map_nil, hs, hx, hr]
  exact h v' w' h1 h2 h3
theorem ownN_empty (w : World) (B : Nat) (hB : B ≤ w.heap.size) : OwnN (w.alloc (.cells #[] 39)) B (.slice (some ⟨w.heap.size, 0, none⟩) 0 0) [] :=
  ⟨rfl, Or.inr ⟨w.heap.size, 0, #[], rfl, hB, heap_alloc_last w _, Nat.le_refl _, by unfold maxLen; omega, rfl, rfl⟩⟩
theorem row_one {W : World} {g : Nat} {e : Nd} (h : W.heap[g]? = some (.cells #[.int .i64 e.dep, .int .i64 e.cls, .bool e.made, .int .i64 e.tag, .string e.body] 39 (0, 0))) : NdRow W (some ⟨g, 0, none⟩) [e] := fun i hi => by
  have hi0 : i = 0 := by simpa using hi
  subst hi0
  have hb : Box W g 39 #[.int .i64 e.dep, .int .i64 e.cls, .bool e.made, .int .i64 e.tag, .string e.body] := h
  refine ⟨g, 0, rfl, ?_, ?_, ?_, ?_, ?_⟩
  · exact (at_of hb (j := 0) rfl).1
  · exact (at_of hb (j := 1) rfl).1
  · exact (at_of hb (j := 2) rfl).1
  · exact (at_of hb (j := 3) rfl).1
  · exact (at_of hb (j := 4) rfl).1
theorem row_isN {w : World} {a : Option Addr} {n : Nat} {D C T : Nat → Int} {M : Nat → Bool} {B : Nat → ByteArray} {k : List Nd} (h : NdRow w a (nodesL n D C T M B ++ k)) : IsNodes w a n D C T M B := fun i hi => by
  obtain ⟨b, off, e, h0, h1, h2, h3, h4⟩ := h i (by rw [List.length_append, nodesL_len]; omega)
  have hx : (nodesL n D C T M B ++ k)[i]'(by rw [List.length_append, nodesL_len]; omega) = ⟨D i, C i, M i, T i, B i⟩ := by
    rw [List.getElem_append_left (by rw [nodesL_len]; exact hi)]
    simp [nodesL]
  rw [hx] at h0 h1 h2 h3 h4
  exact ⟨b, off, e, h0, h1, h2, h3, h4⟩
set_option maxRecDepth 100000 in
set_option maxHeartbeats 2000000 in
theorem sameNodes_q (l : List Nd) (a b : Option Addr) (c d : Nat) (w : World) (hl : l.length ≤ 140737488355328) (h1 : NdRow w a l) (h2 : NdRow w b l) :
    Calls Try.prog 15 #[.slice a l.length c, .slice b l.length d] w fun r w' => r = .returned (.bool true) ∧ ∃ q, w' = w.drewN q := by
  have hl' : Hid (l.length ≤ 140737488355328) := hl
  clear hl
  go_enter Try.func15, Try.ntmps15
  go_wp2_with fail
  go_loopw [5] (fun iv wr => ∃ (k q : Nat), k ≤ l.length ∧ iv = .int .i64 (k : Int) ∧ Hid (wr = w.drewN q)) (fun iv _ => l.length - (intOf iv).toNat)
  case atStart => exact ⟨0, 0, Nat.zero_le _, rfl, rfl⟩
  case round =>
    obtain ⟨k, q, hk, rfl, hw⟩ := hrel
    have k0 : (0 : Int) ≤ (k : Int) := Int.natCast_nonneg _
    by_cases hlt : k < l.length
    · have k1 : (k : Int) < (l.length : Int) := Int.ofNat_lt.2 hlt
      obtain ⟨b1, o1, rfl, x0, x1, x2, x3, x4⟩ := h1 k hlt
      obtain ⟨b2, o2, rfl, y0, y1, y2, y3, y4⟩ := h2 k hlt
      have hE : ∀ a, wr.cell? a = w.cell? a := fun a => by rw [hw.out]; rfl
      rw [← hE] at x0 x1 x2 x3 x4 y0 y1 y2 y3 y4
      have hnq := fun W => ne_node l[k].dep l[k].cls l[k].made l[k].tag l[k].body W
      have hkw : Hid (wrap64 ((k : Int) + 1) = (k : Int) + 1) := wr_up' k (by have := hl'.out; omega)
      have hlt' : Hid (k < l.length) := hlt
      generalize l[k] = X at *
      clear hE h1 h2 hlt hk
      go_wp2_with fail
      go_quiet (fail)
      go_wp2_with fail
      have hkw2 := hkw.out
      refine ⟨⟨k + 1, _, hlt'.out, congrArg (Value.int .i64) (by rw [hkw2]; omega), by unfold Hid; rw [hw.out, World.drewN_drewN]⟩, ?_⟩
      rw [hkw2]
      have := hlt'.out
      simp [intOf]
      omega
    · obtain rfl : k = l.length := by omega
      have k1 : ¬ (l.length : Int) < (l.length : Int) := by omega
      clear h1 h2
      go_wp2_with fail
      go_ret
      exact ⟨rfl, q, hw.out⟩
theorem eq_node (d c : Int) (m : Bool) (t : Int) (s : ByteArray) (W : World) :
    (binOp .eql 39 (.agg #[.int .i64 d, .int .i64 c, .bool m, .int .i64 t, .string s]) (.agg #[.int .i64 d, .int .i64 c, .bool m, .int .i64 t, .string s])).run Try.prog W = .ok (.bool true) W := by
  have hS : Try.prog.underlying 39 = some (.struct (Try.prog.fieldsOf 39)) := by kernel_rfl
  have hp : Try.prog.stoodInHeld 39 = false := by kernel_rfl
  rw [run_eql_struct, run_equalIn_struct _ _ _ _ _ hS hp]
  simp only [Program.fieldsOf, Try.underlying39]
  simp [Op.eqFields, go_sem]
end Go.Proofs.Ytgfonnjblbpogaa

namespace Go.Proofs.Ytgfonnjblbpogaa
open Go.RowKit
set_option linter.unusedVariables false

/-- What stands behind the list. -/
def spN : Nd := ⟨-7, 0, false, 0, ⟨#[115, 112, 97, 114, 101]⟩⟩
set_option maxRecDepth 100000 in
set_option maxHeartbeats 4000000 in
theorem berWrite_walk (a : Option Addr) (n c : Nat) (D C T : Nat → Int) (M : Nat → Bool) (B : Nat → ByteArray) (w : World) (hn : IsNodes w a n D C T M B) (hl : n ≤ 140737488355328) (hB : ∀ i, i < n → (B i).size ≤ 140737488355328) :
    Calls Try.prog 5 #[.slice a n c] w fun e w' => e = .returned (.bool true) ∧ Below w.heap.size w w' := by
  have HH : Hid (IsNodes w a n D C T M B ∧ n ≤ 140737488355328 ∧ (∀ i, i < n → (B i).size ≤ 140737488355328)) := ⟨hn, hl, hB⟩
  have HM : Hid (Calls Try.prog 11 #[.slice a n c] w fun e w' => SmlR e n B ∧ Below w.heap.size w w') := small_any a n c D C T M B w hn hl hB
  clear hn hl hB
  go_enter Try.func5, Try.ntmps5
  go_wp2_with fail
  refine HM.out.mono ?_
  rintro e w1 ⟨⟨o, rfl, ho⟩, hb1⟩
  have ho' : Hid (o = true → bsum B n ≤ 67108864) := ho
  have HB1 : Hid (Below w.heap.size w w1) := hb1
  clear ho hb1 HM
  cases o
  · go_wp2_with fail
    go_ret
    exact ⟨rfl, HB1.out⟩
  have hSm : Hid (bsum B n ≤ 67108864) := ho'.out rfl
  have hnn : Hid (n ≤ 11184811) := by unfold Hid; have := bsum_six B n; have := hSm.out; omega
  clear ho'
  go_upto_region 5 with fail
  have HX : Hid (Box (w1.alloc (.cells #[.int .i64 (-7), .int .i64 0, .bool false, .int .i64 0, .string ⟨#[115, 112, 97, 114, 101]⟩] 39)) w1.heap.size 39 #[.int .i64 (-7), .int .i64 0, .bool false, .int .i64 0, .string ⟨#[115, 112, 97, 114, 101]⟩]) := Box.new _ _ _
  have HB2 : Hid (Below w.heap.size w (w1.alloc (.cells #[.int .i64 (-7), .int .i64 0, .bool false, .int .i64 0, .string ⟨#[115, 112, 97, 114, 101]⟩] 39))) := HB1.out.alloc HB1.out.size _
  obtain ⟨W0, hW0⟩ : ∃ W0, w1.alloc (.cells #[.int .i64 (-7), .int .i64 0, .bool false, .int .i64 0, .string ⟨#[115, 112, 97, 114, 101]⟩] 39) = W0 := ⟨_, rfl⟩
  rw [hW0] at HX HB2 ⊢
  obtain ⟨sp, hsp⟩ : ∃ g, w1.heap.size = g := ⟨_, rfl⟩
  rw [hsp] at HX ⊢
  clear hW0 hsp HB1
  have x0 := (at_of HX.out (j := 0) (v := .int .i64 (-7)) rfl).1
  have x1 := (at_of HX.out (j := 1) (v := .int .i64 0) rfl).1
  have x2 := (at_of HX.out (j := 2) (v := .bool false) rfl).1
  have x3 := (at_of HX.out (j := 3) (v := .int .i64 0) rfl).1
  have x4 := (at_of HX.out (j := 4) (v := .string ⟨#[115, 112, 97, 114, 101]⟩) rfl).1
  have hN : Hid (IsNodes W0 a n D C T M B) := HH.out.1.below HB2.out
  have hsz : Hid ((([] : List Nd).length + (nodesL n D C T M B).length) * 48 ≤ 140737488355328 ∧ ((nodesL n D C T M B).length + [spN].length) * 48 ≤ 140737488355328) := by
    unfold Hid
    rw [nodesL_len]
    have := hnn.out
    simp only [List.length_nil, List.length_cons]
    omega
  have hspl : Hid (sp < W0.heap.size) := HX.out.lt
  have FA : Hid (OwnN (W0.alloc (.cells #[] 39)).drew W0.heap.size (.slice (some ⟨W0.heap.size, 0, none⟩) 0 0) [] ∧ NdRow (W0.alloc (.cells #[] 39)).drew a (nodesL n D C T M B) ∧ Below W0.heap.size W0 (W0.alloc (.cells #[] 39)).drew) :=
    ⟨World.ownsRow.drew (ownN_empty W0 _ (Nat.le_refl _)), (isN_row hN.out).below (((Below.refl _ _).alloc (Nat.le_refl _) _).drew), ((Below.refl _ _).alloc (Nat.le_refl _) _).drew⟩
  have FB : Hid (OwnN ((W0.alloc (.cells #[.int .i64 (-7), .int .i64 0, .bool false, .int .i64 0, .string ⟨#[115, 112, 97, 114, 101]⟩] 39)).alloc (.cells #[] 39)).drew W0.heap.size (.slice (some ⟨W0.heap.size + 1, 0, none⟩) 0 0) [] ∧ NdRow ((W0.alloc (.cells #[.int .i64 (-7), .int .i64 0, .bool false, .int .i64 0, .string ⟨#[115, 112, 97, 114, 101]⟩] 39)).alloc (.cells #[] 39)).drew a (nodesL n D C T M B) ∧ Below W0.heap.size W0 ((W0.alloc (.cells #[.int .i64 (-7), .int .i64 0, .bool false, .int .i64 0, .string ⟨#[115, 112, 97, 114, 101]⟩] 39)).alloc (.cells #[] 39)).drew) := by
    have hb : Below W0.heap.size W0 ((W0.alloc (.cells #[.int .i64 (-7), .int .i64 0, .bool false, .int .i64 0, .string ⟨#[115, 112, 97, 114, 101]⟩] 39)).alloc (.cells #[] 39)).drew := (((Below.refl _ _).alloc (Nat.le_refl _) _).alloc (by simp) _).drew
    refine ⟨?_, (isN_row hN.out).below hb, hb⟩
    have := ownN_empty (W0.alloc (.cells #[.int .i64 (-7), .int .i64 0, .bool false, .int .i64 0, .string ⟨#[115, 112, 97, 114, 101]⟩] 39)) W0.heap.size (by simp)
    rw [show (W0.alloc (.cells #[.int .i64 (-7), .int .i64 0, .bool false, .int .i64 0, .string ⟨#[115, 112, 97, 114, 101]⟩] 39)).heap.size = W0.heap.size + 1 from by simp] at this
    exact World.ownsRow.drew this
  have FC : Hid (OwnN ((W0.alloc (.cells #[] 39)).alloc (.cells #[.int .i64 (-7), .int .i64 0, .bool false, .int .i64 0, .string ⟨#[115, 112, 97, 114, 101]⟩] 39)).drew W0.heap.size (.slice (some ⟨W0.heap.size, 0, none⟩) 0 0) [] ∧ NdRow ((W0.alloc (.cells #[] 39)).alloc (.cells #[.int .i64 (-7), .int .i64 0, .bool false, .int .i64 0, .string ⟨#[115, 112, 97, 114, 101]⟩] 39)).drew a (nodesL n D C T M B) ∧ Below W0.heap.size W0 ((W0.alloc (.cells #[] 39)).alloc (.cells #[.int .i64 (-7), .int .i64 0, .bool false, .int .i64 0, .string ⟨#[115, 112, 97, 114, 101]⟩] 39)).drew) := by
    have hb : Below W0.heap.size W0 ((W0.alloc (.cells #[] 39)).alloc (.cells #[.int .i64 (-7), .int .i64 0, .bool false, .int .i64 0, .string ⟨#[115, 112, 97, 114, 101]⟩] 39)).drew := (((Below.refl _ _).alloc (Nat.le_refl _) _).alloc (by simp) _).drew
    exact ⟨World.ownsRow.drew (World.ownsRow.alloc (ownN_empty W0 _ (Nat.le_refl _)) _), (isN_row hN.out).below hb, hb⟩
  have gB : Hid (((W0.alloc (.cells #[.int .i64 (-7), .int .i64 0, .bool false, .int .i64 0, .string ⟨#[115, 112, 97, 114, 101]⟩] 39)).alloc (.cells #[] 39)).drew.heap[W0.heap.size]? = some (.cells #[.int .i64 (-7), .int .i64 0, .bool false, .int .i64 0, .string ⟨#[115, 112, 97, 114, 101]⟩] 39 (0, 0)) ∧ W0.heap.size < ((W0.alloc (.cells #[.int .i64 (-7), .int .i64 0, .bool false, .int .i64 0, .string ⟨#[115, 112, 97, 114, 101]⟩] 39)).alloc (.cells #[] 39)).drew.heap.size) := by
    have h : Box (W0.alloc (.cells #[.int .i64 (-7), .int .i64 0, .bool false, .int .i64 0, .string ⟨#[115, 112, 97, 114, 101]⟩] 39)) W0.heap.size 39 #[.int .i64 (-7), .int .i64 0, .bool false, .int .i64 0, .string ⟨#[115, 112, 97, 114, 101]⟩] := Box.new _ _ _
    exact ⟨h.past _, (h.past _).lt⟩
  have gC : Hid (((W0.alloc (.cells #[] 39)).alloc (.cells #[.int .i64 (-7), .int .i64 0, .bool false, .int .i64 0, .string ⟨#[115, 112, 97, 114, 101]⟩] 39)).drew.heap[W0.heap.size + 1]? = some (.cells #[.int .i64 (-7), .int .i64 0, .bool false, .int .i64 0, .string ⟨#[115, 112, 97, 114, 101]⟩] 39 (0, 0)) ∧ W0.heap.size + 1 < ((W0.alloc (.cells #[] 39)).alloc (.cells #[.int .i64 (-7), .int .i64 0, .bool false, .int .i64 0, .string ⟨#[115, 112, 97, 114, 101]⟩] 39)).drew.heap.size) := by
    have h : Box ((W0.alloc (.cells #[] 39)).alloc (.cells #[.int .i64 (-7), .int .i64 0, .bool false, .int .i64 0, .string ⟨#[115, 112, 97, 114, 101]⟩] 39)) (W0.heap.size + 1) 39 #[.int .i64 (-7), .int .i64 0, .bool false, .int .i64 0, .string ⟨#[115, 112, 97, 114, 101]⟩] := by
      have := Box.new (W0.alloc (.cells #[] 39)) 39 #[.int .i64 (-7), .int .i64 0, .bool false, .int .i64 0, .string ⟨#[115, 112, 97, 114, 101]⟩]
      simpa using this
    exact ⟨h, h.lt⟩
  have z0 : (W0.alloc (.cells #[] 39)).cell? ⟨sp, 0, none⟩ = some (.int .i64 (-7)) := by rw [World.cell?_alloc_past _ _ _ hspl.out]; exact x0
  have z1 : (W0.alloc (.cells #[] 39)).cell? ⟨sp, 1, none⟩ = some (.int .i64 0) := by rw [World.cell?_alloc_past _ _ _ hspl.out]; exact x1
  have z2 : (W0.alloc (.cells #[] 39)).cell? ⟨sp, 2, none⟩ = some (.bool false) := by rw [World.cell?_alloc_past _ _ _ hspl.out]; exact x2
  have z3 : (W0.alloc (.cells #[] 39)).cell? ⟨sp, 3, none⟩ = some (.int .i64 0) := by rw [World.cell?_alloc_past _ _ _ hspl.out]; exact x3
  have z4 : (W0.alloc (.cells #[] 39)).cell? ⟨sp, 4, none⟩ = some (.string ⟨#[115, 112, 97, 114, 101]⟩) := by rw [World.cell?_alloc_past _ _ _ hspl.out]; exact x4
  go_cut [5] (fun fv wx => OwnN wx W0.heap.size fv (nodesL n D C T M B ++ [spN]) ∧ Below W0.heap.size W0 wx)
  case first =>
    go_region_law (first
      | (refine step_nodes _ rfl (.tmp 17) (.tmp 18) rfl rfl W0.heap.size [] (nodesL n D C T M B) a c _ rfl ?_ FA.out.1 FA.out.2.1 FA.out.2.2.size hsz.out.1 ?_; (rw [nodesL_len]; rfl); intro v1 wA hoA hbA hfA; have y0 : wA.cell? ⟨sp, 0, none⟩ = some (.int .i64 (-7)) := ((FA.out.2.2.trans hbA).cell hspl.out).trans x0; have y1 : wA.cell? ⟨sp, 1, none⟩ = some (.int .i64 0) := ((FA.out.2.2.trans hbA).cell hspl.out).trans x1; have y2 : wA.cell? ⟨sp, 2, none⟩ = some (.bool false) := ((FA.out.2.2.trans hbA).cell hspl.out).trans x2; have y3 : wA.cell? ⟨sp, 3, none⟩ = some (.int .i64 0) := ((FA.out.2.2.trans hbA).cell hspl.out).trans x3; have y4 : wA.cell? ⟨sp, 4, none⟩ = some (.string ⟨#[115, 112, 97, 114, 101]⟩) := ((FA.out.2.2.trans hbA).cell hspl.out).trans x4)
      | (refine step_nodes _ rfl (.tmp 17) (.tmp 18) rfl rfl W0.heap.size [] (nodesL n D C T M B) a c _ rfl ?_ FB.out.1 FB.out.2.1 FB.out.2.2.size hsz.out.1 ?_; (rw [nodesL_len]; rfl); intro v1 wB hoB hbB hfB)
      | (refine step_nodes _ rfl (.tmp 17) (.tmp 18) rfl rfl W0.heap.size [] (nodesL n D C T M B) a c _ rfl ?_ FC.out.1 FC.out.2.1 FC.out.2.2.size hsz.out.1 ?_; (rw [nodesL_len]; rfl); intro v1 wC hoC hbC hfC)
      | (refine step_nodes _ rfl (.tmp 19) (.tmp 21) rfl rfl W0.heap.size (nodesL n D C T M B) [spN] (some ⟨wA.heap.size, 0, none⟩) 1 _ rfl rfl (World.ownsRow.alloc hoA _) (row_one (Box.new _ _ _)) (Nat.le_trans FA.out.2.2.size (Nat.le_trans hbA.size (by simp))) hsz.out.2 ?_; intro v2 wF hoF hbF _; have hres : Hid (OwnN wF W0.heap.size v2 (nodesL n D C T M B ++ [spN]) ∧ Below W0.heap.size W0 wF) := ⟨hoF, ((FA.out.2.2.trans hbA).alloc (Nat.le_trans FA.out.2.2.size hbA.size) _).trans hbF⟩)
      | (refine step_nodes _ rfl (.tmp 19) (.tmp 21) rfl rfl W0.heap.size (nodesL n D C T M B) [spN] (some ⟨W0.heap.size, 0, none⟩) 1 _ rfl rfl hoB (row_one ((hfB _ gB.out.2 (by show some (W0.heap.size + 1) ≠ some W0.heap.size; simp)).trans gB.out.1)) (Nat.le_trans FB.out.2.2.size hbB.size) hsz.out.2 ?_; intro v2 wF hoF hbF _; have hres : Hid (OwnN wF W0.heap.size v2 (nodesL n D C T M B ++ [spN]) ∧ Below W0.heap.size W0 wF) := ⟨hoF, (FB.out.2.2.trans hbB).trans hbF⟩)
      | (refine step_nodes _ rfl (.tmp 19) (.tmp 21) rfl rfl W0.heap.size (nodesL n D C T M B) [spN] (some ⟨W0.heap.size + 1, 0, none⟩) 1 _ rfl rfl hoC (row_one ((hfC _ gC.out.2 (by show some W0.heap.size ≠ some (W0.heap.size + 1); simp)).trans gC.out.1)) (Nat.le_trans FC.out.2.2.size hbC.size) hsz.out.2 ?_; intro v2 wF hoF hbF _; have hres : Hid (OwnN wF W0.heap.size v2 (nodesL n D C T M B ++ [spN]) ∧ Below W0.heap.size W0 wF) := ⟨hoF, (FC.out.2.2.trans hbC).trans hbF⟩))
    all_goals (go_wp2_with fail; go_meet; case rel => exact hres.out)
  case rest =>
    obtain ⟨hoF, hbF⟩ := hcut
    clear FA FB FC gB gC hsz z0 z1 z2 z3 z4
    obtain ⟨g, cap, rfl, hcap⟩ : ∃ g cap, u5 = .slice (some ⟨g, 0, none⟩) (n + 1) cap ∧ n + 1 ≤ cap := by
      have hlen : (nodesL n D C T M B ++ [spN]).length = n + 1 := by rw [List.length_append, nodesL_len]; rfl
      rcases hoF.2 with ⟨rfl, h⟩ | ⟨g, cap, cur, rfl, _, _, h, _⟩
      · omega
      · rw [hlen] at h ⊢
        exact ⟨g, cap, rfl, h⟩
    have hrow := (ownN_row hoF).1
    have n0 : (0 : Int) ≤ (n : Int) := Int.natCast_nonneg _
    have n1 : n ≤ cap := by omega
    have n2 : (n : Int) < ((n + 1 : Nat) : Int) := Int.ofNat_lt.2 (Nat.lt_succ_self _)
    have HN1 : Hid (IsNodes wc (some ⟨g, 0, none⟩) n D C T M B) := row_isN hrow
    have HN2 : Hid (IsNodes wc a n D C T M B) := hN.out.below hbF
    have HR : Hid (NdRow wc (some ⟨g, 0, none⟩) (nodesL n D C T M B ++ [spN])) := hrow
    have HB3 : Hid (Below w.heap.size w wc) := HB2.out.trans (hbF.mono HB2.out.size)
    have HX3 : Hid (Box wc sp 39 #[.int .i64 (-7), .int .i64 0, .bool false, .int .i64 0, .string ⟨#[115, 112, 97, 114, 101]⟩]) := HX.out.of (hbF.block _ hspl.out)
    clear hrow hoF hbF hcap x0 x1 x2 x3 x4 hN HX HB2 hspl
    have HW : Hid (Calls Try.prog 13 #[.slice (some ⟨g, 0, none⟩) n cap] wc fun e w' => WrE e n D C T M B ∧ Below wc.heap.size wc w') := write_any (some ⟨g, 0, none⟩) n cap D C T M B wc HN1.out hSm.out
    go_wp2_with fail
    refine HW.out.mono ?_
    rintro e w3 ⟨hE, hb3⟩
    clear HW
    have HRW : Hid (Calls Try.prog 14 #[.slice a n c] w3 fun e w' => WrE e n D C T M B ∧ Below w3.heap.size w3 w') := rWrite_any a n c D C T M B w3 (HN2.out.below hb3) hSm.out
    have HB4 : Hid (Below wc.heap.size wc w3) := hb3
    have HE : Hid (WrE e n D C T M B) := hE
    obtain ⟨xs, cc, qq, he, _⟩ := wr_unique hSm.out hE hE
    subst he
    clear hb3 hE
    go_wp2_with fail
    refine HRW.out.mono ?_
    rintro e w4 ⟨hE, hb4⟩
    obtain ⟨xs', cc', qq', he, he'⟩ := wr_unique hSm.out HE.out hE
    rw [he'] at hE ⊢
    clear he he' xs' cc' qq'
    have HB5 : Hid (Below wc.heap.size wc w4) := HB4.out.trans (hb4.mono HB4.out.size)
    clear HRW hb4 hE HE HB4
    have HR5 : Hid (NdRow w4 (some ⟨g, 0, none⟩) (nodesL n D C T M B ++ [spN])) := HR.out.below HB5.out
    have HN5 : Hid (IsNodes w4 a n D C T M B) := HN2.out.below HB5.out
    have HX5 : Hid (Box w4 sp 39 #[.int .i64 (-7), .int .i64 0, .bool false, .int .i64 0, .string ⟨#[115, 112, 97, 114, 101]⟩]) := HX3.out.below HB5.out
    have HB6 : Hid (Below w.heap.size w w4) := HB3.out.trans (HB5.out.mono HB3.out.size)
    clear HR HN1 HN2 HX3 HB3 HB5 HH
    have x0 := (at_of HX5.out (j := 0) (v := .int .i64 (-7)) rfl).1
    have x1 := (at_of HX5.out (j := 1) (v := .int .i64 0) rfl).1
    have x2 := (at_of HX5.out (j := 2) (v := .bool false) rfl).1
    have x3 := (at_of HX5.out (j := 3) (v := .int .i64 0) rfl).1
    have x4 := (at_of HX5.out (j := 4) (v := .string ⟨#[115, 112, 97, 114, 101]⟩) rfl).1
    obtain ⟨b', o', e', y0, y1, y2, y3, y4⟩ := HR5.out n (by rw [List.length_append, nodesL_len]; exact Nat.lt_succ_self _)
    have e1 : g = b' := congrArg Addr.block (Option.some.inj e')
    have e2 : 0 = o' := congrArg Addr.off (Option.some.inj e')
    subst e1 e2
    have hlast : (nodesL n D C T M B ++ [spN])[n]'(by rw [List.length_append, nodesL_len]; exact Nat.lt_succ_self _) = spN := by
      rw [List.getElem_append_right (by rw [nodesL_len]; exact Nat.le_refl _)]
      simp [nodesL_len]
    rw [hlast] at y0 y1 y2 y3 y4
    simp only [spN, Nat.zero_add] at y0 y1 y2 y3 y4
    have hSN : Hid (∀ W, NdRow W (some ⟨g, 0, none⟩) (nodesL n D C T M B ++ [spN]) → IsNodes W a n D C T M B → Calls Try.prog 15 #[.slice (some ⟨g, 0, none⟩) n cap, .slice a n c] W fun r w' => r = .returned (.bool true) ∧ ∃ q, w' = W.drewN q) := fun W h1 h2 => by
      have := sameNodes_q (nodesL n D C T M B) (some ⟨g, 0, none⟩) a cap c W (by rw [nodesL_len]; have := hnn.out; omega) (fun i hi => by
        obtain ⟨b, off, e, q⟩ := h1 i (by rw [List.length_append]; omega)
        rw [List.getElem_append_left hi] at q
        exact ⟨b, off, e, q⟩) (isN_row h2)
      rw [nodesL_len] at this
      exact this
    have hSN4 : Hid (∀ k, Calls Try.prog 15 #[.slice (some ⟨g, 0, none⟩) n cap, .slice a n c] (w4.drewN k) fun r w' => r = .returned (.bool true) ∧ ∃ q, w' = (w4.drewN k).drewN q) := fun k => hSN.out _ (fun i hi => HR5.out i hi) (fun i hi => HN5.out i hi)
    have hEq := fun W => eq_node (-7) 0 false 0 ⟨#[115, 112, 97, 114, 101]⟩ W
    have hend : Hid (∀ q, Below w.heap.size w (w4.drewN q)) := fun q => HB6.out.trans ⟨rfl, rfl, rfl, Nat.le_refl _, fun _ _ => rfl⟩
    clear hSN HR5 HN5 HX5 HB6 hSm hnn e' hlast
    go_wp2_with fail
    go_quiet ((go_at_call 15; exact Calls.quiet_of (hSN4.out _)))
    go_wp2_with fail
    go_ret
    exact ⟨rfl, hend.out _⟩
end Go.Proofs.Ytgfonnjblbpogaa
