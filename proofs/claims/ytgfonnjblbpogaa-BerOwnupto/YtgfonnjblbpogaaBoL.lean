import Derived.Test.YtgfonnjblbpogaaBoX
import Derived.Test.YtgfonnjblbpogaaBhSpV
import Derived.BigQuiet
import Derived.Deep.RegionWith
import Derived.Deep.DeepCutAuto
namespace Go.Proofs.Ytgfonnjblbpogaa
open Go.RowKit
set_option linter.unusedVariables false

set_option maxRecDepth 100000 in
set_option maxHeartbeats 4000000 in
theorem berOwn_walk (a : Option Addr) (n c : Nat) (D C T : Nat → Int) (M : Nat → Bool) (B : Nat → ByteArray) (b : ByteArray) (w : World) (hn : IsNodes w a n D C T M B) (hl : n ≤ 140737488355328) (hB : ∀ i, i < n → (B i).size ≤ 140737488355328) (hb : b.size ≤ 1048576) :
    Calls Try.prog 7 #[.slice a n c, .string b] w fun e w' => e = .returned (.bool true) ∧ Below w.heap.size w w' := by
  have HS : Hid (Calls Try.prog 10 #[.slice a n c] w fun e w' => SndR2 e n D C T M B ∧ Below w.heap.size w w') := sound2_any a n c D C T M B w hn hl
  have HH : Hid (IsNodes w a n D C T M B ∧ n ≤ 140737488355328 ∧ (∀ i, i < n → (B i).size ≤ 140737488355328)) := ⟨hn, hl, hB⟩
  have Hb : Hid (b.size ≤ 1048576) := hb
  clear hn hl hB hb
  go_enter Try.func7, Try.ntmps7
  go_wp2_with fail
  refine HS.out.mono ?_
  rintro e w1 ⟨⟨g, rfl, hg⟩, hb1⟩
  have HM : Hid (Calls Try.prog 11 #[.slice a n c] w1 fun e w' => SmlR e n B ∧ Below w1.heap.size w1 w') := small_any a n c D C T M B w1 (HH.out.1.below hb1) HH.out.2.1 HH.out.2.2
  have hg' : Hid (g = true ↔ (0 < n ∧ ∀ i, i < n → Good D C T M B i)) := hg
  clear hg
  go_wp2_with fail
  refine HM.out.mono ?_
  rintro e w2 ⟨⟨o, rfl, ho⟩, hb2⟩
  have ho' : Hid (o = true → bsum B n ≤ 67108864) := ho
  have HB2 : Hid (Below w.heap.size w w2) := hb1.trans (hb2.mono hb1.size)
  clear ho hb1 hb2 HM HS
  go_upto_region 3 with fail
  go_cut [50] (fun v wx => v = .bool (!g || !o) ∧ w2 = wx)
  case first =>
    cases g <;> cases o
    all_goals (go_wp2_with fail; go_meet; case rel => exact ⟨rfl, rfl⟩)
  case rest =>
  obtain ⟨rfl, rfl⟩ := hcut
  have hno : ∀ W, Box W w2.heap.size 39 c3 → Below w2.heap.size w2 W → NdIn w (.slice (some ⟨w2.heap.size, 0, none⟩) 3 3) W := fun W h1 h2 =>
    ⟨some ⟨w2.heap.size, 0, none⟩, 3, 3, D3, C3, T3, M3, B3, rfl, isN3 h1, by decide, good3, bsum3, HB2.out.trans (h2.mono HB2.out.size)⟩
  go_upto_if 50 with fail
  go_cut [0] (fun nv wx => NdIn w nv wx)
  case first =>
    cases g <;> cases o
    · go_wp2_with fail
      go_meet
      case rel => exact hno _ (Box.new _ _ _) ((Below.refl _ _).alloc (Nat.le_refl _) _)
    · go_wp2_with fail
      go_meet
      case rel => exact hno _ (Box.new _ _ _) ((Below.refl _ _).alloc (Nat.le_refl _) _)
    · go_wp2_with fail
      go_meet
      case rel => exact hno _ (Box.new _ _ _) ((Below.refl _ _).alloc (Nat.le_refl _) _)
    · have hy : NdIn w (.slice a n c) w2 := ⟨a, n, c, D, C, T, M, B, rfl, HH.out.1.below HB2.out, (hg'.out.1 rfl).1, (hg'.out.1 rfl).2, ho'.out rfl, HB2.out⟩
      clear hg' ho' hno
      go_wp2_with fail
      go_meet
      case rel => exact hy
  case rest =>
  clear hno HH hg' ho' HB2
  obtain ⟨a, n, c, D, C, T, M, B, rfl, hI, hn0, hG, hS, hB3⟩ := hcut
  have HN : Hid (0 < n ∧ (∀ i, i < n → Good D C T M B i) ∧ bsum B n ≤ 67108864) := ⟨hn0, hG, hS⟩
  have HSp : Hid (Calls Try.prog 12 #[.slice a n c, .slice none 0 0] wc fun e w' => SplR2 e n D C T M B ∧ Below wc.heap.size wc w') := spelt2_any a n c D C T M B none 0 0 (fun _ => 0) wc hI (fun i hi => absurd hi (Nat.not_lt_zero _)) hG hn0 hS
  have H3 : Hid (IsNodes wc a n D C T M B ∧ Below w.heap.size w wc) := ⟨hI, hB3⟩
  clear hI hn0 hG hS hB3
  go_wp2_with fail
  refine HSp.out.mono ?_
  rintro e w3 ⟨⟨H, σ, sh, rfl, hSI, _⟩, hb3⟩
  have hX := spX_of hSI
  have hlen := spX_len HN.out.1 hSI HN.out.2.2
  obtain ⟨y0, hy0⟩ := split_two HN.out.1 hSI HN.out.2.1 (S (outB H B 0 n)) rfl
  have H4 : Hid (IsNodes w3 a n D C T M B ∧ Below w.heap.size w w3) := ⟨H3.out.1.below hb3, H3.out.2.trans (hb3.mono H3.out.2.size)⟩
  have T1 : Hid (∀ W, Calls Try.prog 23 #[.string (S (outB H B 0 n))] W fun r w' => (∃ v, r = .returned (.tuple #[v, .int .i64 0, .int .i64 0]) ∧ OwnN w' W.heap.size v (nodesL n D C T M B)) ∧ Below W.heap.size W w') := fun W =>
    tree_yes (by rw [S_size]; omega) ((tree_back hX HN.out.2.1 HN.out.1 (S (outB H B 0 n)) [] (by rw [S_l, List.append_nil])).1 rfl)
  obtain ⟨y, hy⟩ : ∃ y, y = emOf y0 := ⟨_, rfl⟩
  have S2 : Hid (∀ W, Calls Try.prog 17 #[.string (S (outB H B 0 n) ++ S (outB H B 0 n))] W fun r w' => (∃ v, r = .returned (.tuple #[v, .int .i64 0, .int .i64 0]) ∧ OwnG w' W.heap.size v [y, y]) ∧ Below W.heap.size W w') := fun W =>
    (berSplit_any _ W (by rw [ByteArray.size_append, S_size]; omega)).mono fun r w' ⟨hq, hb⟩ => ⟨(by
      rcases hq with ⟨l, v, h1, h2, h3⟩ | ⟨c, q, h1, h2⟩
      · rw [hy0] at h1
        injection h1 with h1
        subst h1
        exact ⟨v, h2, by rw [hy]; exact ownG_of h3⟩
      · rw [hy0] at h1; cases h1), hb⟩
  have hXb : (S (outB H B 0 n)).size + (S (outB H B 0 n)).size ≤ 9223372036854775807 := by rw [S_size]; omega
  generalize S (outB H B 0 n) = X at *
  clear hX hlen hSI hy0 hy hb3 H3 HSp
  go_wp2_with fail
  refine (S2.out _).mono ?_
  rintro e w4 ⟨⟨v9, rfl, ho9⟩, hb4⟩
  obtain ⟨a9, c9, rfl, hr9⟩ := ownG_any ho9
  have e2 : ([y, y] : List Em).length = 2 := rfl
  rw [e2] at ho9 ⊢
  obtain ⟨v12, w5, hr12, ho12, hb5, _⟩ := appendG_run (w4.alloc (.cells #[] 56)) w4.heap.size (.slice (some ⟨w4.heap.size, 0, none⟩) 0 0) [] [y, y] a9 c9 (ownG_empty w4 _ (Nat.le_refl _)) (hr9.below ((Below.refl _ _).alloc (Nat.le_refl _) _)) (by simp) (by simp)
  rw [e2] at hr12
  have hb5' : Below w4.heap.size w4 w5 := ((Below.refl _ _).alloc (Nat.le_refl _) _).trans hb5
  obtain ⟨a12, c12, rfl, hr12'⟩ := ownG_any ho12
  have e2' : ([] ++ [y, y] : List Em).length = 2 := rfl
  have e2'' : ([] ++ [y, y] : List Em) = [y, y] := rfl
  rw [e2'] at hr12
  rw [e2''] at hr12'
  have HT : Hid (Calls Try.prog 20 #[.string b] w5 fun r w' => treeQ b w5.heap.size r w' ∧ Below w5.heap.size w5 w') := BrM.rtree_any b w5 (by have := Hb.out; omega)
  have H5 : Hid (IsNodes w5 a n D C T M B ∧ Below w.heap.size w w5 ∧ Below w4.heap.size w4 w5 ∧ OwnG w4 w3.heap.size (.slice a9 2 c9) [y, y] ∧ OwnG w5 w3.heap.size (.slice a9 2 c9) [y, y] ∧ w3.heap.size ≤ w4.heap.size ∧ w.heap.size ≤ w3.heap.size ∧ GmRow w5 a12 [y, y] ∧ (∀ b' off, a12 = some ⟨b', off, none⟩ → w4.heap.size ≤ b')) :=
    ⟨(H4.out.1.below hb4).below hb5', (H4.out.2.trans (hb4.mono H4.out.2.size)).trans (hb5'.mono (Nat.le_trans H4.out.2.size hb4.size)), hb5', ho9, ownG_below ho9 hb5', hb4.size, H4.out.2.size, hr12', fun b' off e => (World.ownsRow.lt (show w5.ownsRow w4.heap.size 56 4 _ _ (gv _) from ho12) b' (by rw [e]; rfl)).1⟩
  clear hb4 hb5 hb5' hr12' hr9 ho9 ho12 e2 e2' e2'' 
  go_wp2_with (at_builtin; refine Lib.wpList_append_run _ rfl _ _ _ _ rfl _ _ rfl rfl _ _ hr12 ?_; clear hr12)
  refine HT.out.mono ?_
  rintro e w6 ⟨hq6, hb6⟩
  obtain ⟨v13, k13, q13, rfl, ho13⟩ := treeT hq6
  have HT2 : Hid (Calls Try.prog 21 #[.string b] w6 fun r w' => splitQ b w6.heap.size r w' ∧ Below w6.heap.size w6 w') := refSplit_any b w6 (by have := Hb.out; omega)
  obtain ⟨a13, c13, rfl, hr13⟩ := ownN_any ho13
  have H6 : Hid (Below w5.heap.size w5 w6 ∧ NdRow w6 a13 (tl b) ∧ ∀ b' off, a13 = some ⟨b', off, none⟩ → w5.heap.size ≤ b') := ⟨hb6, hr13, fun b' off e => (World.ownsRow.lt (show w6.ownsRow w5.heap.size 39 5 _ _ (nv _) from ho13) b' (by rw [e]; rfl)).1⟩
  clear HT hq6 hb6 ho13 hr13
  generalize hN13 : (tl b).length = n13 at *
  go_wp2_with fail
  refine HT2.out.mono ?_
  rintro e w7 ⟨hq7, hb7⟩
  obtain ⟨v16, k16, q16, rfl, ho16⟩ := splitT hq7
  obtain ⟨a16, c16, rfl, hr16⟩ := ownG_any ho16
  have H7 : Hid (Below w6.heap.size w6 w7 ∧ GmRow w7 a16 (sl b) ∧ ∀ b' off, a16 = some ⟨b', off, none⟩ → w6.heap.size ≤ b') := ⟨hb7, hr16, fun b' off e => (World.ownsRow.lt (show w7.ownsRow w6.heap.size 56 4 _ _ (gv _) from ho16) b' (by rw [e]; rfl)).1⟩
  have hb57 : Below w5.heap.size w5 w7 := H6.out.1.trans (hb7.mono H6.out.1.size)
  have HT3 : Hid (Calls Try.prog 22 #[.slice a9 2 c9, .int .i64 (-7)] w7 fun r w' => ∃ more, r = .returned (.agg #[.slice a9 2 c9, more, .int .i64 (-7)]) ∧ Mke w' (.slice a9 2 c9) more (-7) 2 ∧ Ch (fun k => (Value.slice a9 2 c9).ownBlock = some k) w7 w' ∧ ∀ g, more.ownBlock = some g → (Value.slice a9 2 c9).ownBlock = some g ∨ w7.heap.size ≤ g) := markElems_any w3.heap.size (.slice a9 2 c9) [y, y] (-7) w7 (ownG_below H5.out.2.2.2.2.1 hb57) (by have := H5.out.2.2.2.2.2.1; have := H5.out.2.2.1.size; have := hb57.size; omega) (by simp)
  clear HT2 hq7 hb7 ho16 hr16 hb57
  generalize hN16 : (sl b).length = n16 at *
  go_wp2_with fail
  refine HT3.out.mono ?_
  rintro e w8 ⟨more, rfl, hM8, hc8, hm8⟩
  obtain ⟨am, cm, hmore⟩ : ∃ a c, more = .slice a 3 c := by
    obtain ⟨_, a, c, e, _⟩ := hM8
    exact ⟨a, c, e⟩
  subst hmore
  have H8 : Hid (Mke w8 (.slice a9 2 c9) (.slice am 3 cm) (-7) 2 ∧ Ch (fun k => (Value.slice a9 2 c9).ownBlock = some k) w7 w8 ∧ ∀ g, (Value.slice am 3 cm).ownBlock = some g → (Value.slice a9 2 c9).ownBlock = some g ∨ w7.heap.size ≤ g) := ⟨hM8, hc8, hm8⟩
  have hlt9 : Ltw w8 (.slice a9 2 c9) := fun g hg => by
    have h1 := (World.ownsRow.lt (show w4.ownsRow w3.heap.size 56 4 _ _ (gv [y, y]) from H5.out.2.2.2.1) g hg).2
    have h2 := H5.out.2.2.1.size
    have h3 := H6.out.1.size
    have h4 := H7.out.1.size
    have h5 := hc8.2.2.2.1
    omega
  have hE0 : Hid (EE w8 (.slice a9 2 c9, .slice am 3 cm, -7)) := ⟨⟨2, by decide, hM8⟩, hlt9, hM8.ltMore⟩
  obtain ⟨kz, hkz⟩ : ∃ kz : Option Addr, kz = none := ⟨none, rfl⟩
  have hKI0 : KI w8 w8.heap.size (.slice kz 0 0) (.slice kz 0 0) [] [] := by
    rw [hkz]
    exact ⟨ownK_nil _ _ _, ownK_nil _ _ _, fun x hx => (List.not_mem_nil hx).elim, fun x hx => (List.not_mem_nil hx).elim⟩
  have hz0 : ∀ x : K3, Apt x (.slice kz 0 0) := fun x g hg => by rw [hkz] at hg; simp [Value.ownBlock] at hg
  obtain ⟨W9, hW9⟩ : ∃ W9, (w8.alloc (.cells #[.slice a9 2 c9, .slice am 3 cm, .int .i64 (-7)] 62)).alloc (.cells #[.slice a9 2 c9, .slice am 3 cm, .int .i64 (-7)] 62) = W9 := ⟨_, rfl⟩
  have hb9 : Below w8.heap.size w8 W9 := by rw [← hW9]; exact ((Below.refl _ _).alloc (Nat.le_refl _) _).alloc (by simp) _
  have hg9 : W9.heap[w8.heap.size + 1]? = some (.cells #[.slice a9 2 c9, .slice am 3 cm, .int .i64 (-7)] 62 (0, 0)) := by
    rw [← hW9]
    have := World.alloc_heap_new (w8.alloc (.cells #[.slice a9 2 c9, .slice am 3 cm, .int .i64 (-7)] 62)) (.cells #[.slice a9 2 c9, .slice am 3 cm, .int .i64 (-7)] 62)
    simpa using this
  obtain ⟨ke, W10, hrE, hKI, hb10, _, ae, ce, hke⟩ := (hKI0.below hb9).addE [(.slice a9 2 c9, .slice am 3 cm, -7)] (w8.heap.size + 1) hg9 (fun x hx => by
    obtain rfl := List.mem_singleton.1 hx
    exact ⟨hE0.out.below hb9, hz0 _, hz0 _⟩) (by simp) hb9.size (by simp)
  subst hke
  have e1 : ([] : List K3).length + ([(Value.slice a9 2 c9, Value.slice am 3 cm, (-7 : Int))] : List K3).length = 1 := rfl
  have e1' : ([(Value.slice a9 2 c9, Value.slice am 3 cm, (-7 : Int))] : List K3).length = 1 := rfl
  rw [e1, e1'] at hrE
  rw [e1] at hKI
  rw [← hW9] at hrE
  have HL0 : Hid (KI W10 w8.heap.size (.slice kz 0 0) (.slice ae 1 ce) [] [(.slice a9 2 c9, .slice am 3 cm, -7)] ∧ Below w8.heap.size w8 W10) := ⟨hKI, hb9.trans hb10⟩
  clear hM8 hc8 hm8 HT3 hlt9 hE0 hKI0 hz0 hb9 hg9 hKI hb10 e1 e1' hW9
  rw [show (Value.slice none 0 0) = Value.slice kz 0 0 from by rw [hkz]]
  clear hkz
  go_wp2_with (at_builtin; refine Lib.wpList_append_run _ rfl _ _ _ _ rfl _ _ rfl rfl _ _ hrE ?_; clear hrE)
  have HE : Hid (NdRow w8 a (nodesL n D C T M B) ∧ GmRow w8 a12 [y, y] ∧ NdRow w8 a13 (tl b) ∧ GmRow w8 a16 (sl b) ∧ Below w.heap.size w w8 ∧ n ≤ 67108864) := by
    obtain ⟨k1, k2, k3, k4, k5, k6, k7, k8, k9⟩ := H5.out
    have hc8 := H8.out.2.1
    have hb57 : Below w5.heap.size w5 w7 := H6.out.1.trans (H7.out.1.mono H6.out.1.size)
    have hin : ∀ g, (Value.slice a9 2 c9).ownBlock = some g → w3.heap.size ≤ g ∧ g < w4.heap.size := World.ownsRow.lt (show w4.ownsRow w3.heap.size 56 4 _ _ (gv [y, y]) from k4)
    have hs := k3.size
    have hs6 := H6.out.1.size
    have hc58 : Ch (fun k => (Value.slice a9 2 c9).ownBlock = some k) w5 w8 := (Ch.of_below hb57).trans hc8
    have hc68 : Ch (fun k => (Value.slice a9 2 c9).ownBlock = some k) w6 w8 := (Ch.of_below H7.out.1).trans hc8
    have hr0 : NdRow w5 a (nodesL n D C T M B) := isN_row k1
    have hr3 : NdRow w3 a (nodesL n D C T M B) := isN_row H4.out.1
    refine ⟨hr0.ch hc58 (fun b' off e hk => ?_), k8.ch hc58 (fun b' off e hk => ?_), H6.out.2.1.ch hc68 (fun b' off e hk => ?_), H7.out.2.1.ch hc8 (fun b' off e hk => ?_), k2.trans ((hb57.mono (Nat.le_trans k7 (Nat.le_trans k6 hs))).trans (hc8.below (Nat.le_trans k7 (Nat.le_trans k6 (Nat.le_trans hs hb57.size))) (fun k hk => Nat.le_trans k7 (hin k hk).1))), ?_⟩
    · obtain ⟨b2, o2, e2, h0, _⟩ := hr3 0 (by rw [nodesL_len]; exact HN.out.1)
      have : b2 = b' := by rw [e] at e2; exact (congrArg Addr.block (Option.some.inj e2)).symm
      subst this
      have h1 := World.block_lt_of_cell? w3 _ h0
      have h2 := (hin _ hk).1
      have h3 : b2 < w3.heap.size := h1
      omega
    · have h1 := k9 b' off e
      have h2 := (hin _ hk).2
      omega
    · have h1 := H6.out.2.2 b' off e
      have h2 := (hin _ hk).2
      omega
    · have h1 := H7.out.2.2 b' off e
      have h2 := (hin _ hk).2
      omega
    · have h1 := bsum_six B n
      have h2 := HN.out.2.2
      omega
  have T2 : Hid (∀ W, Calls Try.prog 23 #[.string b] W fun r w' => treeQ b W.heap.size r w' ∧ Below W.heap.size W w') := fun W => tree_any b W (by have := Hb.out; omega)
  have S3 : Hid (∀ W, Calls Try.prog 17 #[.string b] W fun r w' => splitQ b W.heap.size r w' ∧ Below W.heap.size W w') := fun W => berSplit_any b W (by have := Hb.out; omega)
  clear H4 H5 H6 H7 H8
  go_loopw [19, 20, 22] (fun kn ke rv wr => ∃ (r nn ne : Nat) (an ae : Option Addr) (cn ce : Nat) (LN LE : List K3), 1 ≤ r ∧ r ≤ 4 ∧ rv = .int .i64 (r : Int) ∧ kn = .slice an nn cn ∧ ke = .slice ae ne ce ∧ Hid (KI wr w8.heap.size (.slice an nn cn) (.slice ae ne ce) LN LE ∧ Below w8.heap.size w8 wr ∧ LN.length = nn ∧ LE.length = ne ∧ nn ≤ 2 * r ∧ ne ≤ 2 * r + 1)) (fun _ _ rv _ => 4 - (intOf rv).toNat)
  case atStart => exact ⟨1, 0, 1, kz, ae, 0, ce, [], _, by decide, by decide, rfl, rfl, rfl, HL0.out.1, HL0.out.2, rfl, rfl, by decide, by decide⟩
  case round =>
    obtain ⟨r, nn, ne, an, ae', cn, ce', LN, LE, hr1, hr4, rfl, rfl, rfl, HR⟩ := hrel
    by_cases hlt : (r : Int) ≤ 3
    · go_wp2_with fail
      refine (T1.out _).mono ?_
      rintro e x1 ⟨⟨v23, rfl, ho23⟩, hb1⟩
      obtain ⟨a23, c23, rfl, hr23⟩ := ownN_any ho23
      rw [nodesL_len] at ho23 ⊢
      go_wp2_with fail
      refine (S2.out _).mono ?_
      rintro e x2 ⟨⟨v26, rfl, ho26⟩, hb2⟩
      obtain ⟨a26, c26, rfl, hr26⟩ := ownG_any ho26
      have e2 : ([y, y] : List Em).length = 2 := rfl
      rw [e2] at ho26 ⊢
      go_wp2_with fail
      refine (T2.out _).mono ?_
      rintro e x3 ⟨hq3, hb3⟩
      obtain ⟨v29, k29, q29, rfl, ho29⟩ := treeT hq3
      obtain ⟨a29, c29, rfl, hr29⟩ := ownN_any ho29
      rw [hN13] at ho29 ⊢
      go_wp2_with fail
      refine (S3.out _).mono ?_
      rintro e x4 ⟨hq4, hb4⟩
      obtain ⟨v32, k32, q32, rfl, ho32⟩ := splitT hq4
      obtain ⟨a32, c32, rfl, hr32⟩ := ownG_any ho32
      rw [hN16] at ho32 ⊢
      clear hq3 hq4
      have hbL : Below w8.heap.size w8 wr := HR.out.2.1
      have hw4 : Below wr.heap.size wr x4 := ((hb1.trans (hb2.mono hb1.size)).trans (hb3.mono (Nat.le_trans hb1.size hb2.size))).trans (hb4.mono (Nat.le_trans (Nat.le_trans hb1.size hb2.size) hb3.size))
      have hE4 : Below w8.heap.size w8 x4 := hbL.trans (hw4.mono hbL.size)
      have hb34 : Below x2.heap.size x2 x4 := hb3.trans (hb4.mono hb3.size)
      have hb24 : Below x1.heap.size x1 x4 := hb2.trans (hb34.mono hb2.size)
      have hn32 : n ≤ 4294967296 := by have := HE.out.2.2.2.2.2; omega
      have N1 : Hid (∀ W, Below x4.heap.size x4 W → Calls Try.prog 15 #[.slice a23 n c23, .slice a n c] W fun r w' => r = .returned (.bool true) ∧ Below W.heap.size W w') := fun W hW => by
        have h := sameNodes_any (nodesL n D C T M B) a23 a c23 c W (by rw [nodesL_len]; omega) ((hr23.below hb24).below hW) ((HE.out.1.below hE4).below hW)
        rw [nodesL_len] at h
        exact h
      have N2 : Hid (∀ W, Below x4.heap.size x4 W → Calls Try.prog 24 #[.slice a26 2 c26, .slice a12 2 c12] W fun r w' => r = .returned (.bool true) ∧ Below W.heap.size W w') := fun W hW =>
        sameElems_any [y, y] a26 a12 c26 c12 W (by simp) ((hr26.below hb34).below hW) ((HE.out.2.1.below hE4).below hW)
      have N3 : Hid (∀ W, Below x4.heap.size x4 W → Calls Try.prog 15 #[.slice a29 n13 c29, .slice a13 n13 c13] W fun r w' => r = .returned (.bool true) ∧ Below W.heap.size W w') := fun W hW => by
        have h := sameNodes_any (tl b) a29 a13 c29 c13 W (by have := tl_len b; omega) ((hr29.below hb4).below hW) ((HE.out.2.2.1.below hE4).below hW)
        rw [hN13] at h
        exact h
      have N4 : Hid (∀ W, Below x4.heap.size x4 W → Calls Try.prog 24 #[.slice a32 n16 c32, .slice a16 n16 c16] W fun r w' => r = .returned (.bool true) ∧ Below W.heap.size W w') := fun W hW => by
        have h := sameElems_any (sl b) a32 a16 c32 c16 W (by have := sl_len b; have := Hb.out; omega) (hr32.below hW) ((HE.out.2.2.2.1.below hE4).below hW)
        rw [hN16] at h
        exact h
      have HX : Hid (OwnN x4 wr.heap.size (.slice a23 n c23) (nodesL n D C T M B) ∧ OwnG x4 x1.heap.size (.slice a26 2 c26) [y, y] ∧ OwnN x4 x2.heap.size (.slice a29 n13 c29) (tl b) ∧ OwnG x4 x3.heap.size (.slice a32 n16 c32) (sl b) ∧ Below wr.heap.size wr x4 ∧ (∀ g, (Value.slice a23 n c23).ownBlock = some g → g < x1.heap.size) ∧ (∀ g, (Value.slice a26 2 c26).ownBlock = some g → g < x2.heap.size) ∧ (∀ g, (Value.slice a29 n13 c29).ownBlock = some g → g < x3.heap.size) ∧ wr.heap.size ≤ x1.heap.size ∧ x1.heap.size ≤ x2.heap.size ∧ x2.heap.size ≤ x3.heap.size ∧ x3.heap.size ≤ x4.heap.size) :=
        ⟨ownN_below ho23 hb24, ownG_below ho26 hb34, ownN_below ho29 hb4, ho32, hw4, fun g hg => (World.ownsRow.lt (show x1.ownsRow wr.heap.size 39 5 _ _ (nv _) from ho23) g hg).2, fun g hg => (World.ownsRow.lt (show x2.ownsRow x1.heap.size 56 4 _ _ (gv _) from ho26) g hg).2, fun g hg => (World.ownsRow.lt (show x3.ownsRow x2.heap.size 39 5 _ _ (nv _) from ho29) g hg).2, hb1.size, hb2.size, hb3.size, hb4.size⟩
      clear hr23 hr26 hr29 hr32 ho23 ho26 ho29 ho32 hb1 hb2 hb3 hb4 hw4 hE4 hb34 hb24 hbL e2
      go_wp2_with fail
      refine (N1.out _ (Below.refl _ _)).mono ?_
      rintro e x5 ⟨rfl, hb5⟩
      go_wp2_with fail
      refine (N2.out _ hb5).mono ?_
      rintro e x6 ⟨rfl, hb6⟩
      have hb46 : Below x4.heap.size x4 x6 := hb5.trans (hb6.mono hb5.size)
      clear hb5 hb6
      go_wp2_with fail
      refine (N3.out _ hb46).mono ?_
      rintro e x7 ⟨rfl, hb7⟩
      have hb47 : Below x4.heap.size x4 x7 := hb46.trans (hb7.mono hb46.size)
      clear hb46 hb7
      go_wp2_with fail
      refine (N4.out _ hb47).mono ?_
      rintro e x8 ⟨rfl, hb8⟩
      have hb48 : Hid (Below x4.heap.size x4 x8) := hb47.trans (hb8.mono hb47.size)
      clear hb47 hb8 N1 N2 N3 N4
      go_wp2_with fail
      refine (markNodes_any wr.heap.size (.slice a23 n c23) (nodesL n D C T M B) _ x8 (ownN_below HX.out.1 hb48.out) (Nat.le_trans HX.out.2.2.2.2.1.size hb48.out.size) (by rw [nodesL_len]; exact hn32)).mono ?_
      rintro e x9 ⟨m23, rfl, hM23, hc23, hm23⟩
      rw [nodesL_len] at hM23
      obtain ⟨am23, cm23, hmq⟩ : ∃ a c, m23 = .slice a (n + 1) c := by
        obtain ⟨_, a, c, e, _⟩ := hM23
        exact ⟨a, c, e⟩
      subst hmq
      have H9 : Hid (Mkd x9 (.slice a23 n c23) (.slice am23 (n + 1) cm23) (-10 * (r : Int)) n ∧ Ch (fun k => (Value.slice a23 n c23).ownBlock = some k) x8 x9 ∧ ∀ g, (Value.slice am23 (n + 1) cm23).ownBlock = some g → (Value.slice a23 n c23).ownBlock = some g ∨ x8.heap.size ≤ g) := ⟨hM23, hc23, hm23⟩
      clear hM23 hc23 hm23
      have Z : Hid (Rv (.slice a23 n c23) wr.heap.size x1.heap.size ∧ Rv (.slice a26 2 c26) x1.heap.size x2.heap.size ∧ Rv (.slice a29 n13 c29) x2.heap.size x3.heap.size ∧ Rv (.slice a32 n16 c32) x3.heap.size x4.heap.size ∧ wr.heap.size ≤ x1.heap.size ∧ x1.heap.size ≤ x2.heap.size ∧ x2.heap.size ≤ x3.heap.size ∧ x3.heap.size ≤ x4.heap.size ∧ x4.heap.size ≤ x8.heap.size ∧ Below wr.heap.size wr x8 ∧ x8.ownsRow wr.heap.size 39 5 (.slice a23 n c23) (nodesL n D C T M B).length (nv (nodesL n D C T M B)) ∧ x8.ownsRow x1.heap.size 56 4 (.slice a26 2 c26) [y, y].length (gv [y, y]) ∧ x8.ownsRow x2.heap.size 39 5 (.slice a29 n13 c29) (tl b).length (nv (tl b)) ∧ x8.ownsRow x3.heap.size 56 4 (.slice a32 n16 c32) (sl b).length (gv (sl b))) := by
        obtain ⟨p1, p2, p3, p4, p5, p6, p7, p8, p9, p10, p11, p12⟩ := HX.out
        have hq := hb48.out
        exact ⟨fun g hg => ⟨(owns_rv (show x4.ownsRow wr.heap.size 39 5 _ _ (nv _) from p1) g hg).1, p6 g hg⟩, fun g hg => ⟨(owns_rv (show x4.ownsRow x1.heap.size 56 4 _ _ (gv _) from p2) g hg).1, p7 g hg⟩, fun g hg => ⟨(owns_rv (show x4.ownsRow x2.heap.size 39 5 _ _ (nv _) from p3) g hg).1, p8 g hg⟩, owns_rv (show x4.ownsRow x3.heap.size 56 4 _ _ (gv _) from p4), p9, p10, p11, p12, hq.size, p5.trans (hq.mono p5.size), owns_below p1 hq, owns_below p2 hq, owns_below p3 hq, owns_below p4 hq⟩
      clear HX hb48
      obtain ⟨y9, hy9⟩ : ∃ W, x9.alloc (.cells #[(.slice a23 n c23), (.slice am23 (n + 1) cm23), .int .i64 (-10 * (r : Int))] 66) = W := ⟨_, rfl⟩
      have P9 : Hid (EN y9 (((Value.slice a23 n c23), (Value.slice am23 (n + 1) cm23), (-10 * (r : Int))) : K3) ∧ Rng (((Value.slice a23 n c23), (Value.slice am23 (n + 1) cm23), (-10 * (r : Int))) : K3) wr.heap.size x1.heap.size x8.heap.size ∧ Box y9 x9.heap.size 66 #[(.slice a23 n c23), (.slice am23 (n + 1) cm23), .int .i64 (-10 * (r : Int))] ∧ x8.heap.size ≤ x9.heap.size ∧ y9.ownsRow x2.heap.size 39 5 (.slice a29 n13 c29) (tl b).length (nv (tl b)) ∧ y9.ownsRow x1.heap.size 56 4 (.slice a26 2 c26) [y, y].length (gv [y, y]) ∧ y9.ownsRow x3.heap.size 56 4 (.slice a32 n16 c32) (sl b).length (gv (sl b)) ∧ Below wr.heap.size wr y9 ∧ x8.heap.size ≤ y9.heap.size) := by
        obtain ⟨q1, q2, q3, q4, q5, q6, q7, q8, q9, _⟩ := Z.out
        have hmk := H9.out
        have hba : Below x9.heap.size x9 y9 := by rw [← hy9]; exact (Below.refl _ _).alloc (Nat.le_refl _) _
        have hs0 := hmk.2.1.2.2.2.1
        have hs1 := hba.size
        have hs8 : x8.heap.size ≤ x8.heap.size := Nat.le_refl _
        have hbw := Z.out.2.2.2.2.2.2.2.2.2.1
        exact ⟨(en_new hmk.1 (by have := HE.out.2.2.2.2.2; omega) Z.out.1 (by omega)).below hba,
          rng_mono (rng_mark Z.out.1 hmk.2.2) hs8,
          (by rw [← hy9]; exact Box.new _ _ _),
          (by omega),
          owns_below (owns_mark Z.out.2.2.2.2.2.2.2.2.2.2.2.2.1 Z.out.2.2.1 hmk.2.1 Z.out.1 (by omega)) hba,
          owns_below (owns_mark Z.out.2.2.2.2.2.2.2.2.2.2.2.1 Z.out.2.1 hmk.2.1 Z.out.1 (by omega)) hba,
          owns_below (owns_mark Z.out.2.2.2.2.2.2.2.2.2.2.2.2.2 Z.out.2.2.2.1 hmk.2.1 Z.out.1 (by omega)) hba,
          (hbw.trans (hmk.2.1.below (by have := hbw.size; omega) (fun g hg => by have := Z.out.1 g hg; omega))).trans (hba.mono (by have := hbw.size; omega)),
          (by omega)⟩
      clear H9
      go_wp2_with fail
      try rw [hy9]
      refine (markNodes_any x2.heap.size (.slice a29 n13 c29) (tl b) _ y9 (P9.out.2.2.2.2.1) (by have := P9.out.2.2.2.2.2.2.2.2; obtain ⟨_, _, _, _, q5, q6, q7, q8, q9, _⟩ := Z.out; omega) (by have := tl_len b; omega)).mono ?_
      rintro e x10 ⟨m29, rfl, hM, hc, hm⟩
      rw [hN13] at hM
      obtain ⟨am29, cm29, hmq⟩ : ∃ a c, m29 = .slice a (n13 + 1) c := by
        obtain ⟨_, a, c, e, _⟩ := hM
        exact ⟨a, c, e⟩
      subst hmq
      have H10 : Hid (Mkd x10 (.slice a29 n13 c29) (.slice am29 (n13 + 1) cm29) (-10 * (r : Int) - 1) n13 ∧ Ch (fun k => (Value.slice a29 n13 c29).ownBlock = some k) y9 x10 ∧ ∀ g, (Value.slice am29 (n13 + 1) cm29).ownBlock = some g → (Value.slice a29 n13 c29).ownBlock = some g ∨ y9.heap.size ≤ g) := ⟨hM, hc, hm⟩
      clear hM hc hm hy9
      obtain ⟨y10, hy10⟩ : ∃ W, x10.alloc (.cells #[(.slice a29 n13 c29), (.slice am29 (n13 + 1) cm29), .int .i64 (-10 * (r : Int) - 1)] 66) = W := ⟨_, rfl⟩
      have P10 : Hid (EN y10 (((Value.slice a23 n c23), (Value.slice am23 (n + 1) cm23), (-10 * (r : Int))) : K3) ∧ Rng (((Value.slice a23 n c23), (Value.slice am23 (n + 1) cm23), (-10 * (r : Int))) : K3) wr.heap.size x1.heap.size x8.heap.size ∧ Box y10 x9.heap.size 66 #[(.slice a23 n c23), (.slice am23 (n + 1) cm23), .int .i64 (-10 * (r : Int))] ∧ x8.heap.size ≤ x9.heap.size ∧ EN y10 (((Value.slice a29 n13 c29), (Value.slice am29 (n13 + 1) cm29), (-10 * (r : Int) - 1)) : K3) ∧ Rng (((Value.slice a29 n13 c29), (Value.slice am29 (n13 + 1) cm29), (-10 * (r : Int) - 1)) : K3) x2.heap.size x3.heap.size x8.heap.size ∧ Box y10 x10.heap.size 66 #[(.slice a29 n13 c29), (.slice am29 (n13 + 1) cm29), .int .i64 (-10 * (r : Int) - 1)] ∧ x8.heap.size ≤ x10.heap.size ∧ y10.ownsRow x1.heap.size 56 4 (.slice a26 2 c26) [y, y].length (gv [y, y]) ∧ y10.ownsRow x3.heap.size 56 4 (.slice a32 n16 c32) (sl b).length (gv (sl b)) ∧ Below wr.heap.size wr y10 ∧ x8.heap.size ≤ y10.heap.size) := by
        obtain ⟨q1, q2, q3, q4, q5, q6, q7, q8, q9, _⟩ := Z.out
        have hmk := H10.out
        have hba : Below x10.heap.size x10 y10 := by rw [← hy10]; exact (Below.refl _ _).alloc (Nat.le_refl _) _
        have hs0 := hmk.2.1.2.2.2.1
        have hs1 := hba.size
        have hs8 := (P9.out.2.2.2.2.2.2.2.2)
        have hbw := (P9.out.2.2.2.2.2.2.2.1)
        exact ⟨(en_mark P9.out.1 P9.out.2.1 hmk.2.1 Z.out.2.2.1 (by omega) (by omega)).below hba,
          P9.out.2.1,
          (box_mark P9.out.2.2.1 hmk.2.1 Z.out.2.2.1 P9.out.2.2.2.1 (by omega)).below hba,
          P9.out.2.2.2.1,
          (en_new hmk.1 (by have := tl_len b; omega) Z.out.2.2.1 (by omega)).below hba,
          rng_mono (rng_mark Z.out.2.2.1 hmk.2.2) hs8,
          (by rw [← hy10]; exact Box.new _ _ _),
          (by omega),
          owns_below (owns_mark P9.out.2.2.2.2.2.1 Z.out.2.1 hmk.2.1 Z.out.2.2.1 (by omega)) hba,
          owns_below (owns_mark P9.out.2.2.2.2.2.2.1 Z.out.2.2.2.1 hmk.2.1 Z.out.2.2.1 (by omega)) hba,
          (hbw.trans (hmk.2.1.below (by have := hbw.size; omega) (fun g hg => by have := Z.out.2.2.1 g hg; omega))).trans (hba.mono (by have := hbw.size; omega)),
          (by omega)⟩
      clear H10 P9
      go_wp2_with fail
      try rw [hy10]
      refine (markElems_any x1.heap.size (.slice a26 2 c26) [y, y] _ y10 (P10.out.2.2.2.2.2.2.2.2.1) (by have := P10.out.2.2.2.2.2.2.2.2.2.2.2; obtain ⟨_, _, _, _, q5, q6, q7, q8, q9, _⟩ := Z.out; omega) (by simp)).mono ?_
      rintro e x11 ⟨m26, rfl, hM, hc, hm⟩
      obtain ⟨am26, cm26, hmq⟩ : ∃ a c, m26 = .slice a 3 c := by
        obtain ⟨_, a, c, e, _⟩ := hM
        exact ⟨a, c, e⟩
      subst hmq
      have H11 : Hid (Mke x11 (.slice a26 2 c26) (.slice am26 3 cm26) (-10 * (r : Int)) 2 ∧ Ch (fun k => (Value.slice a26 2 c26).ownBlock = some k) y10 x11 ∧ ∀ g, (Value.slice am26 3 cm26).ownBlock = some g → (Value.slice a26 2 c26).ownBlock = some g ∨ y10.heap.size ≤ g) := ⟨hM, hc, hm⟩
      clear hM hc hm hy10
      obtain ⟨y11, hy11⟩ : ∃ W, x11.alloc (.cells #[(.slice a26 2 c26), (.slice am26 3 cm26), .int .i64 (-10 * (r : Int))] 62) = W := ⟨_, rfl⟩
      have P11 : Hid (EN y11 (((Value.slice a23 n c23), (Value.slice am23 (n + 1) cm23), (-10 * (r : Int))) : K3) ∧ Rng (((Value.slice a23 n c23), (Value.slice am23 (n + 1) cm23), (-10 * (r : Int))) : K3) wr.heap.size x1.heap.size x8.heap.size ∧ Box y11 x9.heap.size 66 #[(.slice a23 n c23), (.slice am23 (n + 1) cm23), .int .i64 (-10 * (r : Int))] ∧ x8.heap.size ≤ x9.heap.size ∧ EN y11 (((Value.slice a29 n13 c29), (Value.slice am29 (n13 + 1) cm29), (-10 * (r : Int) - 1)) : K3) ∧ Rng (((Value.slice a29 n13 c29), (Value.slice am29 (n13 + 1) cm29), (-10 * (r : Int) - 1)) : K3) x2.heap.size x3.heap.size x8.heap.size ∧ Box y11 x10.heap.size 66 #[(.slice a29 n13 c29), (.slice am29 (n13 + 1) cm29), .int .i64 (-10 * (r : Int) - 1)] ∧ x8.heap.size ≤ x10.heap.size ∧ EE y11 (((Value.slice a26 2 c26), (Value.slice am26 3 cm26), (-10 * (r : Int))) : K3) ∧ Rng (((Value.slice a26 2 c26), (Value.slice am26 3 cm26), (-10 * (r : Int))) : K3) x1.heap.size x2.heap.size x8.heap.size ∧ Box y11 x11.heap.size 62 #[(.slice a26 2 c26), (.slice am26 3 cm26), .int .i64 (-10 * (r : Int))] ∧ x8.heap.size ≤ x11.heap.size ∧ y11.ownsRow x3.heap.size 56 4 (.slice a32 n16 c32) (sl b).length (gv (sl b)) ∧ Below wr.heap.size wr y11 ∧ x8.heap.size ≤ y11.heap.size) := by
        obtain ⟨q1, q2, q3, q4, q5, q6, q7, q8, q9, _⟩ := Z.out
        have hmk := H11.out
        have hba : Below x11.heap.size x11 y11 := by rw [← hy11]; exact (Below.refl _ _).alloc (Nat.le_refl _) _
        have hs0 := hmk.2.1.2.2.2.1
        have hs1 := hba.size
        have hs8 := (P10.out.2.2.2.2.2.2.2.2.2.2.2)
        have hbw := (P10.out.2.2.2.2.2.2.2.2.2.2.1)
        exact ⟨(en_mark P10.out.1 P10.out.2.1 hmk.2.1 Z.out.2.1 (by omega) (by omega)).below hba,
          P10.out.2.1,
          (box_mark P10.out.2.2.1 hmk.2.1 Z.out.2.1 P10.out.2.2.2.1 (by omega)).below hba,
          P10.out.2.2.2.1,
          (en_mark P10.out.2.2.2.2.1 P10.out.2.2.2.2.2.1 hmk.2.1 Z.out.2.1 (by omega) (by omega)).below hba,
          P10.out.2.2.2.2.2.1,
          (box_mark P10.out.2.2.2.2.2.2.1 hmk.2.1 Z.out.2.1 P10.out.2.2.2.2.2.2.2.1 (by omega)).below hba,
          P10.out.2.2.2.2.2.2.2.1,
          (ee_new hmk.1 (by decide) Z.out.2.1 (by omega)).below hba,
          rng_mono (rng_mark Z.out.2.1 hmk.2.2) hs8,
          (by rw [← hy11]; exact Box.new _ _ _),
          (by omega),
          owns_below (owns_mark P10.out.2.2.2.2.2.2.2.2.2.1 Z.out.2.2.2.1 hmk.2.1 Z.out.2.1 (by omega)) hba,
          (hbw.trans (hmk.2.1.below (by have := hbw.size; omega) (fun g hg => by have := Z.out.2.1 g hg; omega))).trans (hba.mono (by have := hbw.size; omega)),
          (by omega)⟩
      clear H11 P10
      go_wp2_with fail
      try rw [hy11]
      refine (markElems_any x3.heap.size (.slice a32 n16 c32) (sl b) _ y11 (P11.out.2.2.2.2.2.2.2.2.2.2.2.2.1) (by have := P11.out.2.2.2.2.2.2.2.2.2.2.2.2.2.2; obtain ⟨_, _, _, _, q5, q6, q7, q8, q9, _⟩ := Z.out; omega) (by have := sl_len b; have := Hb.out; omega)).mono ?_
      rintro e x12 ⟨m32, rfl, hM, hc, hm⟩
      rw [hN16] at hM
      obtain ⟨am32, cm32, hmq⟩ : ∃ a c, m32 = .slice a (n16 + 1) c := by
        obtain ⟨_, a, c, e, _⟩ := hM
        exact ⟨a, c, e⟩
      subst hmq
      have H12 : Hid (Mke x12 (.slice a32 n16 c32) (.slice am32 (n16 + 1) cm32) (-10 * (r : Int) - 1) n16 ∧ Ch (fun k => (Value.slice a32 n16 c32).ownBlock = some k) y11 x12 ∧ ∀ g, (Value.slice am32 (n16 + 1) cm32).ownBlock = some g → (Value.slice a32 n16 c32).ownBlock = some g ∨ y11.heap.size ≤ g) := ⟨hM, hc, hm⟩
      clear hM hc hm hy11
      obtain ⟨y12, hy12⟩ : ∃ W, x12.alloc (.cells #[(.slice a32 n16 c32), (.slice am32 (n16 + 1) cm32), .int .i64 (-10 * (r : Int) - 1)] 62) = W := ⟨_, rfl⟩
      have P12 : Hid (EN y12 (((Value.slice a23 n c23), (Value.slice am23 (n + 1) cm23), (-10 * (r : Int))) : K3) ∧ Rng (((Value.slice a23 n c23), (Value.slice am23 (n + 1) cm23), (-10 * (r : Int))) : K3) wr.heap.size x1.heap.size x8.heap.size ∧ Box y12 x9.heap.size 66 #[(.slice a23 n c23), (.slice am23 (n + 1) cm23), .int .i64 (-10 * (r : Int))] ∧ x8.heap.size ≤ x9.heap.size ∧ EN y12 (((Value.slice a29 n13 c29), (Value.slice am29 (n13 + 1) cm29), (-10 * (r : Int) - 1)) : K3) ∧ Rng (((Value.slice a29 n13 c29), (Value.slice am29 (n13 + 1) cm29), (-10 * (r : Int) - 1)) : K3) x2.heap.size x3.heap.size x8.heap.size ∧ Box y12 x10.heap.size 66 #[(.slice a29 n13 c29), (.slice am29 (n13 + 1) cm29), .int .i64 (-10 * (r : Int) - 1)] ∧ x8.heap.size ≤ x10.heap.size ∧ EE y12 (((Value.slice a26 2 c26), (Value.slice am26 3 cm26), (-10 * (r : Int))) : K3) ∧ Rng (((Value.slice a26 2 c26), (Value.slice am26 3 cm26), (-10 * (r : Int))) : K3) x1.heap.size x2.heap.size x8.heap.size ∧ Box y12 x11.heap.size 62 #[(.slice a26 2 c26), (.slice am26 3 cm26), .int .i64 (-10 * (r : Int))] ∧ x8.heap.size ≤ x11.heap.size ∧ EE y12 (((Value.slice a32 n16 c32), (Value.slice am32 (n16 + 1) cm32), (-10 * (r : Int) - 1)) : K3) ∧ Rng (((Value.slice a32 n16 c32), (Value.slice am32 (n16 + 1) cm32), (-10 * (r : Int) - 1)) : K3) x3.heap.size x4.heap.size x8.heap.size ∧ Box y12 x12.heap.size 62 #[(.slice a32 n16 c32), (.slice am32 (n16 + 1) cm32), .int .i64 (-10 * (r : Int) - 1)] ∧ x8.heap.size ≤ x12.heap.size ∧ Below wr.heap.size wr y12 ∧ x8.heap.size ≤ y12.heap.size) := by
        obtain ⟨q1, q2, q3, q4, q5, q6, q7, q8, q9, _⟩ := Z.out
        have hmk := H12.out
        have hba : Below x12.heap.size x12 y12 := by rw [← hy12]; exact (Below.refl _ _).alloc (Nat.le_refl _) _
        have hs0 := hmk.2.1.2.2.2.1
        have hs1 := hba.size
        have hs8 := (P11.out.2.2.2.2.2.2.2.2.2.2.2.2.2.2)
        have hbw := (P11.out.2.2.2.2.2.2.2.2.2.2.2.2.2.1)
        exact ⟨(en_mark P11.out.1 P11.out.2.1 hmk.2.1 Z.out.2.2.2.1 (by omega) (by omega)).below hba,
          P11.out.2.1,
          (box_mark P11.out.2.2.1 hmk.2.1 Z.out.2.2.2.1 P11.out.2.2.2.1 (by omega)).below hba,
          P11.out.2.2.2.1,
          (en_mark P11.out.2.2.2.2.1 P11.out.2.2.2.2.2.1 hmk.2.1 Z.out.2.2.2.1 (by omega) (by omega)).below hba,
          P11.out.2.2.2.2.2.1,
          (box_mark P11.out.2.2.2.2.2.2.1 hmk.2.1 Z.out.2.2.2.1 P11.out.2.2.2.2.2.2.2.1 (by omega)).below hba,
          P11.out.2.2.2.2.2.2.2.1,
          (ee_mark P11.out.2.2.2.2.2.2.2.2.1 P11.out.2.2.2.2.2.2.2.2.2.1 hmk.2.1 Z.out.2.2.2.1 (by omega) (by omega)).below hba,
          P11.out.2.2.2.2.2.2.2.2.2.1,
          (box_mark P11.out.2.2.2.2.2.2.2.2.2.2.1 hmk.2.1 Z.out.2.2.2.1 P11.out.2.2.2.2.2.2.2.2.2.2.2.1 (by omega)).below hba,
          P11.out.2.2.2.2.2.2.2.2.2.2.2.1,
          (ee_new hmk.1 (by have := sl_len b; have := Hb.out; omega) Z.out.2.2.2.1 (by omega)).below hba,
          rng_mono (rng_mark Z.out.2.2.2.1 hmk.2.2) hs8,
          (by rw [← hy12]; exact Box.new _ _ _),
          (by omega),
          (hbw.trans (hmk.2.1.below (by have := hbw.size; omega) (fun g hg => by have := Z.out.2.2.2.1 g hg; omega))).trans (hba.mono (by have := hbw.size; omega)),
          (by omega)⟩
      clear H12 P11
      obtain ⟨y13, hy13⟩ : ∃ W, y12.alloc (.cells #[(.slice a23 n c23), (.slice am23 (n + 1) cm23), .int .i64 (-10 * (r : Int)), (.slice a29 n13 c29), (.slice am29 (n13 + 1) cm29), .int .i64 (-10 * (r : Int) - 1)] 66) = W := ⟨_, rfl⟩
      have hb13 : Below y12.heap.size y12 y13 := by rw [← hy13]; exact (Below.refl _ _).alloc (Nat.le_refl _) _
      have hbw13 : Below wr.heap.size wr y13 := P12.out.2.2.2.2.2.2.2.2.2.2.2.2.2.2.2.2.1.trans (hb13.mono P12.out.2.2.2.2.2.2.2.2.2.2.2.2.2.2.2.2.1.size)
      have hg13 : y13.heap[y12.heap.size]? = some (.cells (kvs [(((Value.slice a23 n c23), (Value.slice am23 (n + 1) cm23), (-10 * (r : Int))) : K3), (((Value.slice a29 n13 c29), (Value.slice am29 (n13 + 1) cm29), (-10 * (r : Int) - 1)) : K3)]).toArray 66 (0, 0)) := by rw [← hy13]; exact World.alloc_heap_new _ _
      have hkn0 : ∀ g, (Value.slice an nn cn).ownBlock = some g → g < wr.heap.size := fun g hg => (ownK_lt HR.out.1.1 g hg).2
      have hke0 : ∀ g, (Value.slice ae' ne ce').ownBlock = some g → g < wr.heap.size := fun g hg => (ownK_lt HR.out.1.2.1 g hg).2
      have hsz : wr.heap.size ≤ x1.heap.size ∧ wr.heap.size ≤ x2.heap.size ∧ wr.heap.size ≤ x3.heap.size ∧ wr.heap.size ≤ x8.heap.size := by
        obtain ⟨_, _, _, _, q5, q6, q7, q8, q9, _⟩ := Z.out
        exact ⟨by omega, by omega, by omega, by omega⟩
      have ap23 : Apt (((Value.slice a23 n c23), (Value.slice am23 (n + 1) cm23), (-10 * (r : Int))) : K3) (.slice an nn cn) ∧ Apt (((Value.slice a23 n c23), (Value.slice am23 (n + 1) cm23), (-10 * (r : Int))) : K3) (.slice ae' ne ce') := by
        obtain ⟨_, _, _, _, q5, q6, q7, q8, q9, _⟩ := Z.out
        exact ⟨rng_apt P12.out.2.1 (fun g hg => Nat.lt_of_lt_of_le (hkn0 g hg) (Nat.le_refl _)) (by omega), rng_apt P12.out.2.1 (fun g hg => Nat.lt_of_lt_of_le (hke0 g hg) (Nat.le_refl _)) (by omega)⟩
      have ap29 : Apt (((Value.slice a29 n13 c29), (Value.slice am29 (n13 + 1) cm29), (-10 * (r : Int) - 1)) : K3) (.slice an nn cn) ∧ Apt (((Value.slice a29 n13 c29), (Value.slice am29 (n13 + 1) cm29), (-10 * (r : Int) - 1)) : K3) (.slice ae' ne ce') := by
        obtain ⟨_, _, _, _, q5, q6, q7, q8, q9, _⟩ := Z.out
        exact ⟨rng_apt P12.out.2.2.2.2.2.1 (fun g hg => Nat.lt_of_lt_of_le (hkn0 g hg) hsz.2.1) (by omega), rng_apt P12.out.2.2.2.2.2.1 (fun g hg => Nat.lt_of_lt_of_le (hke0 g hg) hsz.2.1) (by omega)⟩
      have ap26 : Apt (((Value.slice a26 2 c26), (Value.slice am26 3 cm26), (-10 * (r : Int))) : K3) (.slice an nn cn) ∧ Apt (((Value.slice a26 2 c26), (Value.slice am26 3 cm26), (-10 * (r : Int))) : K3) (.slice ae' ne ce') := by
        obtain ⟨_, _, _, _, q5, q6, q7, q8, q9, _⟩ := Z.out
        exact ⟨rng_apt P12.out.2.2.2.2.2.2.2.2.2.1 (fun g hg => Nat.lt_of_lt_of_le (hkn0 g hg) hsz.1) (by omega), rng_apt P12.out.2.2.2.2.2.2.2.2.2.1 (fun g hg => Nat.lt_of_lt_of_le (hke0 g hg) hsz.1) (by omega)⟩
      have ap32 : Apt (((Value.slice a32 n16 c32), (Value.slice am32 (n16 + 1) cm32), (-10 * (r : Int) - 1)) : K3) (.slice an nn cn) ∧ Apt (((Value.slice a32 n16 c32), (Value.slice am32 (n16 + 1) cm32), (-10 * (r : Int) - 1)) : K3) (.slice ae' ne ce') := by
        obtain ⟨_, _, _, _, q5, q6, q7, q8, q9, _⟩ := Z.out
        exact ⟨rng_apt P12.out.2.2.2.2.2.2.2.2.2.2.2.2.2.1 (fun g hg => Nat.lt_of_lt_of_le (hkn0 g hg) hsz.2.2.1) (by omega), rng_apt P12.out.2.2.2.2.2.2.2.2.2.2.2.2.2.1 (fun g hg => Nat.lt_of_lt_of_le (hke0 g hg) hsz.2.2.1) (by omega)⟩
      obtain ⟨kn', x13, hrN, hKN, hbN, hcN, hEs, anw, cnw, hkn⟩ := (HR.out.1.below hbw13).addN [(((Value.slice a23 n c23), (Value.slice am23 (n + 1) cm23), (-10 * (r : Int))) : K3), (((Value.slice a29 n13 c29), (Value.slice am29 (n13 + 1) cm29), (-10 * (r : Int) - 1)) : K3)] y12.heap.size hg13 (fun x hx => by
        rcases List.mem_cons.1 hx with rfl | hx
        · exact ⟨P12.out.1.below hb13, ap23⟩
        · obtain rfl := List.mem_singleton.1 hx
          exact ⟨P12.out.2.2.2.2.1.below hb13, ap29⟩) (by simp) (Nat.le_trans HR.out.2.1.size hbw13.size) (by have h1 := HR.out.2.2.1; have h2 := HR.out.2.2.2.2.1; simp only [List.length_cons, List.length_nil]; omega)
      subst hkn
      obtain ⟨nn2, hnn2⟩ : ∃ q, LN.length + ([(((Value.slice a23 n c23), (Value.slice am23 (n + 1) cm23), (-10 * (r : Int))) : K3), (((Value.slice a29 n13 c29), (Value.slice am29 (n13 + 1) cm29), (-10 * (r : Int) - 1)) : K3)] : List K3).length = q := ⟨_, rfl⟩
      have h22 : ([(((Value.slice a23 n c23), (Value.slice am23 (n + 1) cm23), (-10 * (r : Int))) : K3), (((Value.slice a29 n13 c29), (Value.slice am29 (n13 + 1) cm29), (-10 * (r : Int) - 1)) : K3)] : List K3).length = 2 := rfl
      rw [hnn2] at hrN hKN hEs
      rw [h22] at hrN
      have bx26 := (P12.out.2.2.2.2.2.2.2.2.2.2.1.below hb13).ch hcN (fun e => by have h1 := hkn0 _ e; have h2 := P12.out.2.2.2.2.2.2.2.2.2.2.2.1; have h3 := hsz.2.2.2; omega)
      have bx32 := (P12.out.2.2.2.2.2.2.2.2.2.2.2.2.2.2.1.below hb13).ch hcN (fun e => by have h1 := hkn0 _ e; have h2 := P12.out.2.2.2.2.2.2.2.2.2.2.2.2.2.2.2.1; have h3 := hsz.2.2.2; omega)
      obtain ⟨y14, hy14⟩ : ∃ W, x13.alloc (.cells #[(.slice a26 2 c26), (.slice am26 3 cm26), .int .i64 (-10 * (r : Int)), (.slice a32 n16 c32), (.slice am32 (n16 + 1) cm32), .int .i64 (-10 * (r : Int) - 1)] 62) = W := ⟨_, rfl⟩
      have hb14 : Below x13.heap.size x13 y14 := by rw [← hy14]; exact (Below.refl _ _).alloc (Nat.le_refl _) _
      have hg14 : y14.heap[x13.heap.size]? = some (.cells (kvs [(((Value.slice a26 2 c26), (Value.slice am26 3 cm26), (-10 * (r : Int))) : K3), (((Value.slice a32 n16 c32), (Value.slice am32 (n16 + 1) cm32), (-10 * (r : Int) - 1)) : K3)]).toArray 62 (0, 0)) := by rw [← hy14]; exact World.alloc_heap_new _ _
      have hs13 : w8.heap.size ≤ x13.heap.size := Nat.le_trans HR.out.2.1.size (Nat.le_trans hbw13.size hbN.size)
      obtain ⟨ke', x14, hrE2, hKE, hbE, _, aew, cew, hke⟩ := (hKN.below hb14).addE [(((Value.slice a26 2 c26), (Value.slice am26 3 cm26), (-10 * (r : Int))) : K3), (((Value.slice a32 n16 c32), (Value.slice am32 (n16 + 1) cm32), (-10 * (r : Int) - 1)) : K3)] x13.heap.size hg14 (fun x hx => by
        rcases List.mem_cons.1 hx with rfl | hx
        · exact ⟨(hEs _ (P12.out.2.2.2.2.2.2.2.2.1.below hb13) ap26.1).1.below hb14, (hEs _ (P12.out.2.2.2.2.2.2.2.2.1.below hb13) ap26.1).2, ap26.2⟩
        · obtain rfl := List.mem_singleton.1 hx
          exact ⟨(hEs _ (P12.out.2.2.2.2.2.2.2.2.2.2.2.2.1.below hb13) ap32.1).1.below hb14, (hEs _ (P12.out.2.2.2.2.2.2.2.2.2.2.2.2.1.below hb13) ap32.1).2, ap32.2⟩) (by simp) (Nat.le_trans hs13 hb14.size) (by have h1 := HR.out.2.2.2.1; have h2 := HR.out.2.2.2.2.2; simp only [List.length_cons, List.length_nil]; omega)
      subst hke
      obtain ⟨ne2, hne2⟩ : ∃ q, LE.length + ([(((Value.slice a26 2 c26), (Value.slice am26 3 cm26), (-10 * (r : Int))) : K3), (((Value.slice a32 n16 c32), (Value.slice am32 (n16 + 1) cm32), (-10 * (r : Int) - 1)) : K3)] : List K3).length = q := ⟨_, rfl⟩
      have h23 : ([(((Value.slice a26 2 c26), (Value.slice am26 3 cm26), (-10 * (r : Int))) : K3), (((Value.slice a32 n16 c32), (Value.slice am32 (n16 + 1) cm32), (-10 * (r : Int) - 1)) : K3)] : List K3).length = 2 := rfl
      rw [hne2] at hrE2 hKE
      rw [h23] at hrE2
      have HF : Hid (∃ LN' LE' : List K3, KI x14 w8.heap.size (.slice anw nn2 cnw) (.slice aew ne2 cew) LN' LE' ∧ Below w8.heap.size w8 x14 ∧ LN'.length = nn2 ∧ LE'.length = ne2 ∧ nn2 ≤ 2 * (r + 1) ∧ ne2 ≤ 2 * (r + 1) + 1) := by
        have h1 := HR.out.2.2.1
        have h2 := HR.out.2.2.2.1
        have h3 := HR.out.2.2.2.2.1
        have h4 := HR.out.2.2.2.2.2
        exact ⟨_, _, hKE, ((HR.out.2.1.trans (hbw13.mono HR.out.2.1.size)).trans hbN).trans ((hb14.mono hs13).trans hbE), by rw [List.length_append]; exact hnn2, by rw [List.length_append]; exact hne2, by rw [h22] at hnn2; omega, by rw [h23] at hne2; omega⟩
      have l230 := (at_of P12.out.2.2.1 (j := 0) (v := (.slice a23 n c23)) rfl).1
      have l231 := (at_of P12.out.2.2.1 (j := 1) (v := (.slice am23 (n + 1) cm23)) rfl).1
      have l232 := (at_of P12.out.2.2.1 (j := 2) (v := (.int .i64 (-10 * (r : Int)))) rfl).1
      have l290 := (at_of P12.out.2.2.2.2.2.2.1 (j := 0) (v := (.slice a29 n13 c29)) rfl).1
      have l291 := (at_of P12.out.2.2.2.2.2.2.1 (j := 1) (v := (.slice am29 (n13 + 1) cm29)) rfl).1
      have l292 := (at_of P12.out.2.2.2.2.2.2.1 (j := 2) (v := (.int .i64 (-10 * (r : Int) - 1))) rfl).1
      have l260 := (at_of bx26 (j := 0) (v := (.slice a26 2 c26)) rfl).1
      have l261 := (at_of bx26 (j := 1) (v := (.slice am26 3 cm26)) rfl).1
      have l262 := (at_of bx26 (j := 2) (v := (.int .i64 (-10 * (r : Int)))) rfl).1
      have l320 := (at_of bx32 (j := 0) (v := (.slice a32 n16 c32)) rfl).1
      have l321 := (at_of bx32 (j := 1) (v := (.slice am32 (n16 + 1) cm32)) rfl).1
      have l322 := (at_of bx32 (j := 2) (v := (.int .i64 (-10 * (r : Int) - 1))) rfl).1
      have hrr : Hid ((r : Int) ≤ 3) := hlt
      clear P12 Z hb13 hbw13 hg13 hkn0 hke0 hsz ap23 ap29 ap26 ap32 hKN hbN hcN hEs hnn2 h22 bx26 bx32 hb14 hg14 hs13 hKE hbE hne2 h23 HR
      go_wp2_with (at_builtin; first | (refine Lib.wpList_append_run _ rfl _ _ _ _ rfl _ _ rfl rfl _ _ hrN ?_; clear hrN) | (refine Lib.wpList_append_run _ rfl _ _ _ _ rfl _ _ rfl rfl _ _ hrE2 ?_; clear hrE2))
      obtain ⟨LN', LE', f1, f2, f3, f4, f5, f6⟩ := HF.out
      have hr3 : r ≤ 3 := by have := hrr.out; omega
      refine ⟨⟨r + 1, nn2, ne2, anw, aew, cnw, cew, LN', LE', by omega, by omega, congrArg (Value.int .i64) (by omega), rfl, rfl, ⟨f1, f2, f3, f4, f5, f6⟩⟩, ?_⟩
      simp [intOf]
      omega
    · have HL : Hid (KI wr w8.heap.size (.slice an nn cn) (.slice ae' ne ce') LN LE ∧ Below w8.heap.size w8 wr ∧ LN.length = nn ∧ LE.length = ne ∧ nn ≤ 8 ∧ ne ≤ 9) := ⟨HR.out.1, HR.out.2.1, HR.out.2.2.1, HR.out.2.2.2.1, by have := HR.out.2.2.2.2.1; omega, by have := HR.out.2.2.2.2.2; omega⟩
      clear HR T1 T2 S2 S3 hXb HL0
      obtain ⟨wL, rfl⟩ : ∃ W, W = wr := ⟨_, rfl⟩
      go_wp2_with fail
      go_loopw [39] (fun iv wz => ∃ k : Nat, k ≤ nn ∧ iv = .int .i64 (k : Int) ∧ Hid (Below wL.heap.size wL wz)) (fun iv _ => nn - (intOf iv).toNat)
      case atStart => exact ⟨0, Nat.zero_le _, rfl, Below.refl _ _⟩
      case round =>
        obtain ⟨k, hk, rfl, HZ⟩ := hrel
        have k0 : (0 : Int) ≤ (k : Int) := Int.natCast_nonneg _
        by_cases hkl : k < nn
        · have k1 : (k : Int) < (nn : Int) := Int.ofNat_lt.2 hkl
          have hKI := HL.out.1.below HZ.out
          have hkL : k < LN.length := by rw [HL.out.2.2.1]; exact hkl
          obtain ⟨aa, cc, hsl, hcell⟩ := ownK_any hKI.1
          injection hsl with hs1 hs2 hs3
          subst hs1
          obtain ⟨bb, rfl, g0, g1, g2⟩ := hcell k hkL
          obtain ⟨⟨⟨nk, hnk, hM⟩, hz1⟩, hz2⟩ := hKI.2.2.1 _ (List.getElem_mem hkL)
          have hw := wholeN_any _ _ _ nk wr hM hnk
          obtain ⟨⟨va, vc, e1, hz3⟩, ⟨ua, uc, e2, hz4⟩⟩ := hM
          rw [e1, e2] at hw
          rw [e1] at g0
          rw [e2] at g1
          generalize LN[k].2.2 = mk at *
          obtain ⟨kk, hkk⟩ : ∃ kk, kk = k + 1 := ⟨_, rfl⟩
          obtain ⟨nk', hnk'⟩ : ∃ q, nk + 1 = q := ⟨_, rfl⟩
          rw [hnk'] at hw g1
          have hW : Hid (Calls Try.prog 26 #[.agg #[.slice va nk vc, .slice ua nk' uc, .int .i64 mk]] wr fun r w' => r = .returned (.bool true) ∧ Below wr.heap.size wr w') := hw
          have hkq : Hid (k < nn ∧ kk = k + 1 ∧ kk ≤ nn) := ⟨hkl, hkk, by omega⟩
          have hkw : wrap64 ((k : Int) + 1) = (kk : Int) := by rw [hkk]; exact wo_up k (by have := HL.out.2.2.2.2; omega)
          clear hz1 hz2 hz3 hz4 hw e1 e2 hKI hcell hnk hs2 hs3 hkL hk hkl hkk hnk'
          go_wp2_with fail
          refine hW.out.mono ?_
          rintro e wy ⟨rfl, hby⟩
          have HY : Hid (Below wL.heap.size wL wy) := HZ.out.trans (hby.mono HZ.out.size)
          clear hby hW g0 g1 g2 HZ
          go_wp2_with fail
          try rw [hkw]
          exact ⟨⟨kk, hkq.out.2.2, rfl, HY.out⟩, meas_o nn k kk hkq.out.1 hkq.out.2.1⟩
        · have k1 : ¬ (k : Int) < (nn : Int) := by omega
          clear hk hkl
          have HZ0 : Hid (Below wL.heap.size wL wr) := HZ.out
          clear HZ
          go_wp2_with fail
          go_loopw [40] (fun iv wz => ∃ k : Nat, k ≤ ne ∧ iv = .int .i64 (k : Int) ∧ Hid (Below wL.heap.size wL wz)) (fun iv _ => ne - (intOf iv).toNat)
          case atStart => exact ⟨0, Nat.zero_le _, rfl, HZ0.out⟩
          case round =>
            obtain ⟨k, hk, rfl, HZ⟩ := hrel
            have k0 : (0 : Int) ≤ (k : Int) := Int.natCast_nonneg _
            by_cases hkl : k < ne
            · have k1 : (k : Int) < (ne : Int) := Int.ofNat_lt.2 hkl
              have hKI := HL.out.1.below HZ.out
              have hkL : k < LE.length := by rw [HL.out.2.2.2.1]; exact hkl
              obtain ⟨aa, cc, hsl, hcell⟩ := ownK_any hKI.2.1
              injection hsl with hs1 hs2 hs3
              subst hs1
              obtain ⟨bb, rfl, g0, g1, g2⟩ := hcell k hkL
              obtain ⟨⟨⟨nk, hnk, hM⟩, hz1⟩, hz2⟩ := hKI.2.2.2 _ (List.getElem_mem hkL)
              have hw := wholeE_any _ _ _ nk wr hM hnk
              obtain ⟨⟨va, vc, e1, hz3⟩, ⟨ua, uc, e2, hz4⟩⟩ := hM
              rw [e1, e2] at hw
              rw [e1] at g0
              rw [e2] at g1
              generalize LE[k].2.2 = mk at *
              obtain ⟨kk, hkk⟩ : ∃ kk, kk = k + 1 := ⟨_, rfl⟩
              obtain ⟨nk', hnk'⟩ : ∃ q, nk + 1 = q := ⟨_, rfl⟩
              rw [hnk'] at hw g1
              have hW : Hid (Calls Try.prog 27 #[.agg #[.slice va nk vc, .slice ua nk' uc, .int .i64 mk]] wr fun r w' => r = .returned (.bool true) ∧ Below wr.heap.size wr w') := hw
              have hkq : Hid (k < ne ∧ kk = k + 1 ∧ kk ≤ ne) := ⟨hkl, hkk, by omega⟩
              have hkw : wrap64 ((k : Int) + 1) = (kk : Int) := by rw [hkk]; exact wo_up k (by have := HL.out.2.2.2.2; omega)
              clear hz1 hz2 hz3 hz4 hw e1 e2 hKI hcell hnk hs2 hs3 hkL hk hkl hkk hnk'
              go_wp2_with fail
              refine hW.out.mono ?_
              rintro e wy ⟨rfl, hby⟩
              have HY : Hid (Below wL.heap.size wL wy) := HZ.out.trans (hby.mono HZ.out.size)
              clear hby hW g0 g1 g2 HZ
              go_wp2_with fail
              try rw [hkw]
              exact ⟨⟨kk, hkq.out.2.2, rfl, HY.out⟩, meas_o ne k kk hkq.out.1 hkq.out.2.1⟩
            · have k1 : ¬ (k : Int) < (ne : Int) := by omega
              clear hk hkl
              go_wp2_with fail
              go_ret
              exact ⟨rfl, (HE.out.2.2.2.2.1.trans (HL.out.2.1.mono HE.out.2.2.2.2.1.size)).trans (HZ.out.mono (Nat.le_trans HE.out.2.2.2.2.1.size HL.out.2.1.size))⟩
end Go.Proofs.Ytgfonnjblbpogaa
