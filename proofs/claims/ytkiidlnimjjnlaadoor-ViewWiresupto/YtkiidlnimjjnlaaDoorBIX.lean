import Derived.Test.YtkiidlnimjjnlaaDoorBInt
import Derived.Great.BuildSlice
import Derived.Laws.StructEq
namespace Go.Proofs.YtkiidlnimjjnlaaDoor
open Go.RowKit
open BerMath (lo sz be enc sg fo val pad okInt)

theorem wf64 {n : Int} (h : (Lit.int .i64 n).wf = true) : -9223372036854775808 ≤ n ∧ n ≤ 9223372036854775807 := by
  simp [Lit.wf, IntKind.min, IntKind.max, IntKind.signed, IntKind.bits] at h
  omega

theorem wrap_i8 (b : UInt8) : IntKind.i8.wrap (b.toNat : Int) = val [b] := by
  have hb := b.toNat_lt
  rw [BerMath.val_one]
  simp only [IntKind.wrap, IntKind.bits, IntKind.signed]
  simp
  split <;> omega

set_option maxRecDepth 100000 in
set_option maxHeartbeats 1000000 in
theorem int_any (s : ByteArray) (w : World) : Calls Tryd.prog 36 #[.string s] w fun e w' => e = .returned (intV s.data.toList) ∧ w = w' := by
  have hL : Hid (s.data.toList.length = s.size) := size_l s
  have hP : Hid (Calls Tryd.prog 45 #[.string s] w fun e w' => e = .returned (.bool (pad s.data.toList)) ∧ w = w') := padded_any s w
  by_cases h0 : s.size = 0
  · have e : intV s.data.toList = .tuple #[.int .i64 0, .int .i64 29] := by
      unfold intV; rw [if_neg]; unfold okInt; rw [hL.out]; simp [h0]
    rw [e]
    have z0 : ((s.size : Int) == 0) = true := by rw [beq_iff_eq]; omega
    clear h0 e
    go_enter Tryd.func36, Tryd.ntmps36
    go_wp2_with (go_at_call 45; refine hP.out.mono ?_; rintro e w2 ⟨rfl, rfl⟩)
    go_ret2
    exact ⟨rfl, rfl⟩
  by_cases h9 : 8 < s.size
  · have e : intV s.data.toList = .tuple #[.int .i64 0, .int .i64 29] := by
      unfold intV; rw [if_neg]; unfold okInt; rw [hL.out]; simp; omega
    rw [e]
    have z0 : ((s.size : Int) == 0) = false := by rw [beq_eq_false_iff_ne]; omega
    have z1 : decide ((8 : Int) < (s.size : Int)) = true := decide_eq_true (by omega)
    clear h0 e h9
    go_enter Tryd.func36, Tryd.ntmps36
    go_wp2_with (go_at_call 45; refine hP.out.mono ?_; rintro e w2 ⟨rfl, rfl⟩)
    go_ret2
    exact ⟨rfl, rfl⟩
  have z0 : ((s.size : Int) == 0) = false := by rw [beq_eq_false_iff_ne]; omega
  have z1 : decide ((8 : Int) < (s.size : Int)) = false := decide_eq_false (by omega)
  cases hp : pad s.data.toList with
  | true =>
    have e : intV s.data.toList = .tuple #[.int .i64 0, .int .i64 29] := by
      unfold intV; rw [if_neg]; unfold okInt; rw [hp]; simp
    rw [e]
    rw [hp] at hP
    clear h0 e h9
    go_enter Tryd.func36, Tryd.ntmps36
    go_wp2_with (go_at_call 45; refine hP.out.mono ?_; rintro e w2 ⟨rfl, rfl⟩)
    go_ret2
    exact ⟨rfl, rfl⟩
  | false =>
    have e : intV s.data.toList = .tuple #[.int .i64 (val s.data.toList), .int .i64 0] := by
      unfold intV; rw [if_pos]; unfold okInt; rw [hL.out, hp]; simp; omega
    rw [e]
    rw [hp] at hP
    have ht1 : s.data.toList.take 1 = [s[0]] := by have := take_snoc s 0 (by omega); simpa using this
    have hi8 := wrap_i8 s[0]
    have hv0 : Hid (val (s.data.toList.take 1) = val [s[0]]) := by unfold Hid; rw [ht1]
    have hv1 : -128 ≤ val [s[0]] ∧ val [s[0]] ≤ 127 := by
      have := s[0].toNat_lt
      rw [BerMath.val_one]; split <;> omega
    obtain ⟨v1, v2⟩ := hv1
    have z2 : (1 : Int) ≤ (s.size : Int) := by omega
    clear e ht1 hp
    generalize val [s[0]] = v0 at *
    go_enter Tryd.func36, Tryd.ntmps36
    go_wp2_with (go_at_call 45; refine hP.out.mono ?_; rintro e w2 ⟨rfl, rfl⟩)
    go_loopw [4, 5] (fun nv iv wr => ∃ (k : Nat), 1 ≤ k ∧ k ≤ s.size ∧ iv = .int .i64 (k : Int) ∧ nv = .int .i64 (val (s.data.toList.take k)) ∧ w = wr) (fun _ iv _ => s.size - (intOf iv).toNat)
    case atStart => exact ⟨1, by omega, by omega, rfl, by rw [hv0.out], rfl⟩
    case round =>
      obtain ⟨k, hk1, hk2, rfl, rfl, rfl⟩ := hrel
      by_cases hlt : k < s.size
      · have hne : s.data.toList.take k ≠ [] := by
          intro hh
          have := congrArg List.length hh
          rw [List.length_take, hL.out, List.length_nil] at this
          omega
        have hlen : (s.data.toList.take k).length ≤ 7 := by rw [List.length_take, hL.out]; omega
        obtain ⟨f1, f2⟩ := fo_le _ hne hlen
        have hor := or_low (val (s.data.toList.take k)) s[k].toNat s[k].toNat_lt f1 f2
        have hsn : Hid (val (s.data.toList.take (k + 1)) = val (s.data.toList.take k) * 256 + (s[k].toNat : Int)) := by
          unfold Hid; rw [take_snoc s k hlt, BerMath.val_snoc _ _ hne]
        have k0 : (0 : Int) ≤ (k : Int) := by omega
        have k8 : (k : Int) ≤ 8 := by omega
        have hb256 := s[k].toNat_lt
        have b0 : (0 : Int) ≤ (s[k].toNat : Int) := by omega
        have b1 : (s[k].toNat : Int) < 256 := by omega
        have hw64 : wrap64 (s[k].toNat : Int) = (s[k].toNat : Int) := by unfold wrap64; omega
        clear hb256
        have k1 : (k : Int) < (s.size : Int) := by omega
        clear hne hlen h0 h9 hi8 v1 v2 hv0
        generalize val (s.data.toList.take k) = v at *
        go_wp2
        go_roundw
        case rel => exact ⟨k + 1, by omega, by omega, by go_num, by rw [hsn.out], trivial⟩
        case measure => simp [intOf]; omega
      · have hk : k = s.size := by omega
        subst hk
        rw [List.take_of_length_le (by rw [hL.out]; exact Nat.le_refl _)]
        clear h0 h9 hi8 v1 v2 hv0 hP hlt
        go_wp2
        go_ret2
        exact ⟨rfl, rfl⟩
end Go.Proofs.YtkiidlnimjjnlaaDoor

namespace Go.Proofs.YtkiidlnimjjnlaaDoor
open Go.RowKit
open BerMath (lo sz be enc sg fo val pad okInt)

/-- A new row of bytes, turned into a string. -/
theorem conv_new {P : Program} (W : World) (src dst e : TypeId) (l : List UInt8) (cs : Array Value) (n : Nat) (hc : cs = (bv l).toArray) (hn : n = l.length) (hs : P.underlying src = some (.slice e)) (he : P.underlying e = some (.int .u8)) (hd : P.underlying dst = some .string) :
    (convert src dst (.slice (some ⟨W.heap.size, 0, none⟩) n n)).run P (W.alloc (.cells cs e)) = .ok (.string (S l)) (W.alloc (.cells cs e)) := by
  subst hc
  refine conv_back _ src dst e W.heap.size n n l hs he hd hn ?_
  intro j hj
  rw [World.cell?_alloc_mark, World.frozen?_alloc_mark]
  simp [bv, hj]
theorem S_app (a b : List UInt8) : S a ++ S b = S (a ++ b) := S_eq _ _ (by rw [app_l, S_l, S_l])

theorem tmod_256 (c : Int) : (c.tmod 256 = c % 256 ∧ decide (c.tmod 256 < 0) = false) ∨ (c.tmod 256 = c % 256 - 256 ∧ decide (c.tmod 256 < 0) = true) := by
  by_cases h : c.tmod 256 < 0
  · refine Or.inr ⟨?_, decide_eq_true h⟩
    have h1 := Int.tmod_lt_of_pos c (by decide : (0 : Int) < 256)
    have h2 := Int.lt_tmod_of_pos c (by decide : (0 : Int) < 256)
    have h3 := Int.tmod_add_mul_tdiv c 256
    omega
  · refine Or.inl ⟨?_, decide_eq_false h⟩
    have h1 := Int.tmod_lt_of_pos c (by decide : (0 : Int) < 256)
    have h3 := Int.tmod_add_mul_tdiv c 256
    omega
theorem tdiv_256 (c : Int) : (c - c % 256).tdiv 256 = c / 256 := by
  have h3 := Int.tmod_add_mul_tdiv (c - c % 256) 256
  have h1 := Int.tmod_lt_of_pos (c - c % 256) (by decide : (0 : Int) < 256)
  have h2 := Int.lt_tmod_of_pos (c - c % 256) (by decide : (0 : Int) < 256)
  omega

set_option maxRecDepth 100000 in
set_option maxHeartbeats 4000000 in
theorem refPutInt_any (n : Int) (w : World) (h1 : -9223372036854775808 ≤ n) (h2 : n ≤ 9223372036854775807) :
    Calls Tryd.prog 32 #[.int .i64 n] w fun e w' => e = .returned (.string (S (enc n))) ∧ Below w.heap.size w w' := by
  have hE : Hid ((enc n).length ≤ 8) := by unfold Hid; rw [BerMath.enc_len]; exact (BerMath.sz_pos n).2
  go_enter Tryd.func32, Tryd.ntmps32
  go_wp2
  go_loopw [0, 3] (fun nv sv wr => ∃ (c : Int) (t : List UInt8), nv = .int .i64 c ∧ sv = .string (S t) ∧ -9223372036854775808 ≤ c ∧ c ≤ 9223372036854775807 ∧ Hid (enc c ++ t = enc n) ∧ Below w.heap.size w wr) (fun nv _ _ => sz (intOf nv))
  case atStart => exact ⟨n, [], rfl, rfl, h1, h2, by unfold Hid; simp, Below.refl _ _⟩
  case round =>
    obtain ⟨c, t, rfl, rfl, c1, c2, henc, HB⟩ := hrel
    have ht8 : t.length ≤ 7 := by
      have e := congrArg List.length henc.out
      have := hE.out
      rw [List.length_append, BerMath.enc_len] at e
      have := BerMath.sz_pos c
      omega
    obtain ⟨d, hd⟩ : ∃ d, c % 256 = d := ⟨_, rfl⟩
    obtain ⟨q, hq⟩ : ∃ q, c / 256 = q := ⟨_, rfl⟩
    have hd1 : 0 ≤ d ∧ d < 256 := by omega
    have hcq : c = 256 * q + d := by omega
    have hlo : IntKind.u8.wrap d = ((lo c).toNat : Int) := by
      rw [lo_wrap, BerMath.lo_n, BerMath.lo_n]; omega
    have hdv : (c - d).tdiv 256 = q := by have := tdiv_256 c; rw [hd, hq] at this; exact this
    have hw1 : wrap64 (c - d) = c - d := by unfold wrap64; omega
    have hw2 : wrap64 q = q := by unfold wrap64; omega
    have hin : Hid ((-128 ≤ c ∧ c ≤ 127) → enc n = lo c :: t) := fun h => by rw [← henc.out, BerMath.enc_one c h]; rfl
    have hout : Hid (¬ (-128 ≤ c ∧ c ≤ 127) → enc q ++ lo c :: t = enc n) := fun h => by rw [← henc.out, BerMath.enc_up c h c1 c2, hq]; simp
    have hsz : Hid (¬ (-128 ≤ c ∧ c ≤ 127) → sz q < sz c) := fun h => by rw [BerMath.sz_up c h c1 c2, hq]; omega
    have hcv := conv_new (P := Tryd.prog) wr 68 9 5 [lo c] #[.int .u8 ((lo c).toNat : Int)] 1 (by simp [bv]) rfl Tryd.underlying68 Tryd.underlying5 Tryd.underlying9
    have hadd : ∀ W, (Op.stringOp .add (S [lo c]) (S t)).run Tryd.prog W = .ok (.string (S (lo c :: t))) W := fun W => by
      rw [run_string_add_sum W _ _ (by rw [S_size, S_size]; simp; omega), S_app]; rfl
    have hm := tmod_256 c
    rw [hd] at hm
    have hcase : Hid ((-128 ≤ c ∧ c ≤ 127 ∧ ((q == 0) = true ∧ decide (d < 128) = true)) ∨ (-128 ≤ c ∧ c ≤ 127 ∧ ((q == 0) = false ∧ (q == -1) = true ∧ decide ((128 : Int) ≤ d) = true)) ∨ (¬ (-128 ≤ c ∧ c ≤ 127) ∧ ((q == 0) = true ∧ decide (d < 128) = false ∧ (q == -1) = false)) ∨ (¬ (-128 ≤ c ∧ c ≤ 127) ∧ ((q == 0) = false ∧ (q == -1) = true ∧ decide ((128 : Int) ≤ d) = false)) ∨ (¬ (-128 ≤ c ∧ c ≤ 127) ∧ ((q == 0) = false ∧ (q == -1) = false))) := by
      unfold Hid
      by_cases q0 : q = 0
      · subst q0
        by_cases d0 : d < 128
        · exact Or.inl ⟨by omega, by omega, rfl, decide_eq_true d0⟩
        · exact Or.inr (Or.inr (Or.inl ⟨by omega, rfl, decide_eq_false d0, rfl⟩))
      · have b0 : (q == 0) = false := beq_eq_false_iff_ne.2 q0
        by_cases q1 : q = -1
        · subst q1
          by_cases d0 : 128 ≤ d
          · exact Or.inr (Or.inl ⟨by omega, by omega, rfl, rfl, decide_eq_true d0⟩)
          · exact Or.inr (Or.inr (Or.inr (Or.inl ⟨by omega, rfl, rfl, decide_eq_false d0⟩)))
        · exact Or.inr (Or.inr (Or.inr (Or.inr ⟨by omega, b0, beq_eq_false_iff_ne.2 q1⟩)))
    have d1 : 0 ≤ d := hd1.1
    have d2 : d < 256 := hd1.2
    have q1 : -36028797018963968 ≤ q := by omega
    have q2 : q ≤ 36028797018963967 := by omega
    clear henc ht8 hd hq hcq hd1
    have hw3 : wrap64 (d - 256 + 256) = d := by unfold wrap64; omega
    have hs1 : Hid (sz q < sz c → sz (intOf (.int .i64 q)) < sz (intOf (.int .i64 c))) := fun h => h
    rcases hm with ⟨m1, m2⟩ | ⟨m1, m2⟩
    all_goals
      rw [m1] at m2
      rcases hcase.out with ⟨a1, a2, a3, a4⟩ | ⟨a1, a2, a3, a4, a5⟩ | ⟨a1, a3, a4, a5⟩ | ⟨a1, a3, a4, a5⟩ | ⟨a1, a3, a4⟩
      · have he := hin.out ⟨a1, a2⟩
        clear hcase hin hout hsz
        go_wp2
        go_ret
        exact ⟨by rw [he]; rfl, HB.alloc HB.size _⟩
      · have he := hin.out ⟨a1, a2⟩
        clear hcase hin hout hsz
        go_wp2
        go_ret
        exact ⟨by rw [he]; rfl, HB.alloc HB.size _⟩
      all_goals
        have he : Hid (enc q ++ lo c :: t = enc n) := hout.out a1
        have hz := hsz.out a1
        clear hcase hin hout hsz a1
        go_wp2
        go_roundw
        case rel => exact ⟨q, lo c :: t, rfl, rfl, by omega, by omega, he.out, HB.alloc HB.size _⟩
        case measure => simpa [intOf] using hz

set_option maxRecDepth 100000 in
set_option maxHeartbeats 2000000 in
theorem refInt_any (s : ByteArray) (w : World) : Calls Tryd.prog 35 #[.string s] w fun e w' => e = .returned (intV s.data.toList) ∧ Below w.heap.size w w' := by
  have hL : Hid (s.data.toList.length = s.size) := size_l s
  by_cases h0 : s.size = 0
  · have e : intV s.data.toList = .tuple #[.int .i64 0, .int .i64 29] := by
      unfold intV; rw [if_neg]; unfold okInt; rw [hL.out]; simp [h0]
    rw [e]
    have z0 : decide ((s.size : Int) < 1) = true := decide_eq_true (by omega)
    clear h0 e
    go_enter Tryd.func35, Tryd.ntmps35
    go_wp2_with fail
    go_ret2
    exact ⟨rfl, Below.refl _ _⟩
  by_cases h9 : 8 < s.size
  · have e : intV s.data.toList = .tuple #[.int .i64 0, .int .i64 29] := by
      unfold intV; rw [if_neg]; unfold okInt; rw [hL.out]; simp; omega
    rw [e]
    have z0 : decide ((s.size : Int) < 1) = false := decide_eq_false (by omega)
    have z1 : decide ((8 : Int) < (s.size : Int)) = true := decide_eq_true (by omega)
    clear h0 e h9
    go_enter Tryd.func35, Tryd.ntmps35
    go_wp2_with fail
    go_ret2
    exact ⟨rfl, Below.refl _ _⟩
  have hne : s.data.toList ≠ [] := by
    intro hh
    have := congrArg List.length hh
    rw [hL.out, List.length_nil] at this
    exact h0 this
  -- the number that the bytes mean, whether they are the shortest or not
  have hr : ∀ k, 1 ≤ k → k ≤ 8 → k ≤ s.size → -9223372036854775808 ≤ val (s.data.toList.take k) ∧ val (s.data.toList.take k) ≤ 9223372036854775807 := by
    intro k k1 k8 ks
    obtain ⟨j, rfl⟩ : ∃ j, k = j + 1 := ⟨k - 1, by omega⟩
    by_cases j0 : j = 0
    · subst j0
      have := take_snoc s 0 (by omega)
      rw [this]
      have hb := (s[0]'(by omega)).toNat_lt
      show -9223372036854775808 ≤ val [s[0]] ∧ val [s[0]] ≤ 9223372036854775807
      rw [BerMath.val_one]
      split <;> omega
    · have hj : s.data.toList.take j ≠ [] := by
        intro hh
        have := congrArg List.length hh
        rw [List.length_take, hL.out, List.length_nil] at this
        omega
      have := fo_le _ hj (by rw [List.length_take, hL.out]; omega)
      rw [take_snoc s j (by omega), BerMath.val_snoc _ _ hj]
      have hb := (s[j]'(by omega)).toNat_lt
      omega
  have hv := hr s.size (by omega) (by omega) (Nat.le_refl _)
  rw [List.take_of_length_le (by rw [hL.out]; exact Nat.le_refl _)] at hv
  have hP : ∀ W, Hid (Calls Tryd.prog 32 #[.int .i64 (val s.data.toList)] W fun e w' => e = .returned (.string (S (enc (val s.data.toList)))) ∧ Below W.heap.size W w') := fun W => refPutInt_any _ W hv.1 hv.2
  have hans : (okInt s.data.toList = true ∧ ((S (enc (val s.data.toList))).toList == s.toList) = true ∧ intV s.data.toList = .tuple #[.int .i64 (val s.data.toList), .int .i64 0]) ∨ (((S (enc (val s.data.toList))).toList == s.toList) = false ∧ intV s.data.toList = .tuple #[.int .i64 0, .int .i64 29]) := by
    cases ho : okInt s.data.toList with
    | true =>
      obtain ⟨o1, o2, o3⟩ := BerMath.okInt_iff _ ho
      refine Or.inl ⟨rfl, ?_, by unfold intV; rw [if_pos ho]⟩
      rw [BerMath.enc_val _ o1 o2 o3, S_of]
      simp
    | false =>
      refine Or.inr ⟨?_, by unfold intV; rw [if_neg (by rw [ho]; simp)]⟩
      rw [beq_eq_false_iff_ne, Lib.toList_data, Lib.toList_data, S_l]
      intro hh
      have := BerMath.okInt_enc (val s.data.toList) hv.1 hv.2
      rw [hh, ho] at this
      cases this
  have p0 : 0 < s.size := by omega
  obtain ⟨g, hg⟩ : ∃ g, sg s.data.toList = g := ⟨_, rfl⟩
  have hgc : (g = 0 ∧ decide ((128 : Int) ≤ ((s[0]'p0).toNat : Int)) = false) ∨ (g = -1 ∧ decide ((128 : Int) ≤ ((s[0]'p0).toNat : Int)) = true) := by
    have g0 := getD_s s 0 p0
    unfold sg at hg
    rw [g0] at hg
    split at hg
    · exact Or.inr ⟨hg.symm, decide_eq_true (by omega)⟩
    · exact Or.inl ⟨hg.symm, decide_eq_false (by omega)⟩
  have hbd : Hid (∀ k, k < s.size → -36028797018963968 ≤ fo g (s.data.toList.take k) ∧ fo g (s.data.toList.take k) ≤ 36028797018963967) := by
    intro k hk
    by_cases k0 : k = 0
    · subst k0
      show -36028797018963968 ≤ g ∧ g ≤ 36028797018963967
      omega
    · have hj : s.data.toList.take k ≠ [] := by
        intro hh
        have := congrArg List.length hh
        rw [List.length_take, hL.out, List.length_nil] at this
        omega
      have := fo_le _ hj (by rw [List.length_take, hL.out]; omega)
      unfold val at this
      have e : sg (s.data.toList.take k) = g := by
        rw [← hg, ← BerMath.sg_app (s.data.toList.take k) (s.data.toList.drop k) hj, List.take_append_drop]
      rw [e] at this
      exact this
  have hend : Hid (fo g (s.data.toList.take s.size) = val s.data.toList) := by
    unfold Hid; rw [List.take_of_length_le (by rw [hL.out]; exact Nat.le_refl _), ← hg]; rfl
  have hst : Hid (∀ k (hk : k < s.size), fo g (s.data.toList.take (k + 1)) = fo g (s.data.toList.take k) * 256 + (s[k].toNat : Int)) := fun k hk => by
    rw [take_snoc s k hk, BerMath.fo_snoc]
  have y1 : (1 : Int) ≤ (s.size : Int) := by omega
  have y8 : (s.size : Int) ≤ 8 := by omega
  have hans' : Hid ((okInt s.data.toList = true ∧ ((S (enc (val s.data.toList))).toList == s.toList) = true ∧ intV s.data.toList = .tuple #[.int .i64 (val s.data.toList), .int .i64 0]) ∨ (((S (enc (val s.data.toList))).toList == s.toList) = false ∧ intV s.data.toList = .tuple #[.int .i64 0, .int .i64 29])) := hans
  obtain ⟨x, hx⟩ : ∃ x, S (enc (val s.data.toList)) = x := ⟨_, rfl⟩
  rw [hx] at hP hans'
  obtain ⟨vv, hvv⟩ : ∃ vv, val s.data.toList = vv := ⟨_, rfl⟩
  rw [hvv] at hP hans' hend
  clear hans hx hvv hv hr hne hg
  rcases hgc with ⟨rfl, hgd⟩ | ⟨rfl, hgd⟩
  all_goals
    go_enter Tryd.func35, Tryd.ntmps35
    go_wp2_with fail
  · go_loopw [4, 5] (fun nv iv wr => ∃ (k : Nat), k ≤ s.size ∧ iv = .int .i64 (k : Int) ∧ nv = .int .i64 (fo 0 (s.data.toList.take k)) ∧ w = wr) (fun _ iv _ => s.size - (intOf iv).toNat)
    case atStart => exact ⟨0, Nat.zero_le _, rfl, rfl, rfl⟩
    case round =>
      obtain ⟨k, hk2, rfl, rfl, rfl⟩ := hrel
      by_cases hlt : k < s.size
      · obtain ⟨f1, f2⟩ := hbd.out k hlt
        have hb256 := s[k].toNat_lt
        have hsn : Hid (fo 0 (s.data.toList.take (k + 1)) = fo 0 (s.data.toList.take k) * 256 + (s[k].toNat : Int)) := hst.out k hlt
        have k0 : (0 : Int) ≤ (k : Int) := by omega
        have k1 : (k : Int) < (s.size : Int) := by omega
        have hw64 : wrap64 (s[k].toNat : Int) = (s[k].toNat : Int) := by unfold wrap64; omega
        generalize fo 0 (s.data.toList.take k) = v at *
        have hw1 : wrap64 (v * 256) = v * 256 := by unfold wrap64; omega
        have hw3 : Hid (wrap64 (v * 256 + (s[k].toNat : Int)) = v * 256 + (s[k].toNat : Int)) := by unfold Hid wrap64; omega
        clear hb256
        go_wp2
        go_roundw
        case rel => exact ⟨k + 1, by omega, by go_num, by rw [hsn.out, hw3.out], trivial⟩
        case measure => simp [intOf]; omega
      · have hk : k = s.size := by omega
        subst hk
        rw [hend.out]
        rcases hans'.out with ⟨_, a1, a2⟩ | ⟨a1, a2⟩
        all_goals
          clear hans' hbd hst hlt
          go_wp2_with (go_at_call 32; refine (hP _).out.mono ?_; rintro e w1 ⟨rfl, hb1⟩)
          go_ret2
          exact ⟨by rw [a2]; rfl, hb1⟩
  · go_loopw [4, 5] (fun nv iv wr => ∃ (k : Nat), k ≤ s.size ∧ iv = .int .i64 (k : Int) ∧ nv = .int .i64 (fo (-1) (s.data.toList.take k)) ∧ w = wr) (fun _ iv _ => s.size - (intOf iv).toNat)
    case atStart => exact ⟨0, Nat.zero_le _, rfl, rfl, rfl⟩
    case round =>
      obtain ⟨k, hk2, rfl, rfl, rfl⟩ := hrel
      by_cases hlt : k < s.size
      · obtain ⟨f1, f2⟩ := hbd.out k hlt
        have hb256 := s[k].toNat_lt
        have hsn : Hid (fo (-1) (s.data.toList.take (k + 1)) = fo (-1) (s.data.toList.take k) * 256 + (s[k].toNat : Int)) := hst.out k hlt
        have k0 : (0 : Int) ≤ (k : Int) := by omega
        have k1 : (k : Int) < (s.size : Int) := by omega
        have hw64 : wrap64 (s[k].toNat : Int) = (s[k].toNat : Int) := by unfold wrap64; omega
        generalize fo (-1) (s.data.toList.take k) = v at *
        have hw1 : wrap64 (v * 256) = v * 256 := by unfold wrap64; omega
        have hw3 : Hid (wrap64 (v * 256 + (s[k].toNat : Int)) = v * 256 + (s[k].toNat : Int)) := by unfold Hid wrap64; omega
        clear hb256
        go_wp2
        go_roundw
        case rel => exact ⟨k + 1, by omega, by go_num, by rw [hsn.out, hw3.out], trivial⟩
        case measure => simp [intOf]; omega
      · have hk : k = s.size := by omega
        subst hk
        rw [hend.out]
        rcases hans'.out with ⟨_, a1, a2⟩ | ⟨a1, a2⟩
        all_goals
          clear hans' hbd hst hlt
          go_wp2_with (go_at_call 32; refine (hP _).out.mono ?_; rintro e w1 ⟨rfl, hb1⟩)
          go_ret2
          exact ⟨by rw [a2]; rfl, hb1⟩
end Go.Proofs.YtkiidlnimjjnlaaDoor

namespace Go.Proofs.YtkiidlnimjjnlaaDoor
open Go.RowKit
open BerMath (enc val okInt)

/-- What Bool answers. -/
def boolV (s : ByteArray) : Value := if h : s.size = 1 then .tuple #[.bool (!(((s[0]'(by omega)).toNat : Int) == 0)), .int .i64 0] else .tuple #[.bool false, .int .i64 29]
theorem bool_any (s : ByteArray) (w : World) : Calls Tryd.prog 58 #[.string s] w fun e w' => e = .returned (boolV s) ∧ w = w' := by
  by_cases h : s.size = 1
  · have z : (!((s.size : Int) == 1)) = false := by rw [h]; rfl
    have y : (1 : Int) ≤ (s.size : Int) := by omega
    unfold boolV
    rw [dif_pos h]
    go_enter Tryd.func58, Tryd.ntmps58
    go_wp2
    go_ret2
    exact ⟨rfl, rfl⟩
  · have z : ((s.size : Int) == 1) = false := by rw [beq_eq_false_iff_ne]; omega
    unfold boolV
    rw [dif_neg h]
    go_enter Tryd.func58, Tryd.ntmps58
    go_wp2
    go_ret2
    exact ⟨rfl, rfl⟩
theorem refBool_any (s : ByteArray) (w : World) : Calls Tryd.prog 27 #[.string s] w fun e w' => e = .returned (boolV s) ∧ w = w' := by
  by_cases h : s.size = 1
  · have z : (!((s.size : Int) == 1)) = false := by rw [h]; rfl
    have y : (1 : Int) ≤ (s.size : Int) := by omega
    unfold boolV
    rw [dif_pos h]
    go_enter Tryd.func27, Tryd.ntmps27
    go_wp2
    go_ret2
    exact ⟨rfl, rfl⟩
  · have z : ((s.size : Int) == 1) = false := by rw [beq_eq_false_iff_ne]; omega
    unfold boolV
    rw [dif_neg h]
    go_enter Tryd.func27, Tryd.ntmps27
    go_wp2
    go_ret2
    exact ⟨rfl, rfl⟩
def pbV (v : Bool) : ByteArray := if v then ⟨#[255]⟩ else ⟨#[0]⟩
theorem putBool_any (v : Bool) (w : World) : Calls Tryd.prog 23 #[.bool v] w fun e w' => e = .returned (.string (pbV v)) ∧ w = w' := by
  cases v
  all_goals
    go_enter Tryd.func23, Tryd.ntmps23
    go_wp2
    go_ret
    exact ⟨rfl, rfl⟩
theorem intV_two (l : List UInt8) : ∃ a b, intV l = .tuple #[.int .i64 a, .int .i64 b] := by
  unfold intV; split
  · exact ⟨_, _, rfl⟩
  · exact ⟨_, _, rfl⟩
theorem boolV_two (s : ByteArray) : ∃ a b, boolV s = .tuple #[.bool a, .int .i64 b] := by
  unfold boolV; split
  · exact ⟨_, _, rfl⟩
  · exact ⟨_, _, rfl⟩

end Go.Proofs.YtkiidlnimjjnlaaDoor
