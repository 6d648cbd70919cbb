import Derived.Test.YtgfonnjblbpogaaBwRn
namespace Go.Proofs.Ytgfonnjblbpogaa
open Go.RowKit
set_option linter.unusedVariables false

/-- What stands behind the list. -/
def spN : Nd := ⟨-7, 0, false, 0, ⟨#[115, 112, 97, 114, 101]⟩⟩
set_option maxRecDepth 100000 in
set_option maxHeartbeats 4000000 in
theorem berWrite_walk (a : Option Addr) (n c : Nat) (D C T : Nat → Int) (M : Nat → Bool) (B : Nat → ByteArray) (w : World) (hn : IsNodes w a n D C T M B) (hl : n ≤ 140737488355328) (hB : ∀ i, i < n → (B i).size ≤ 140737488355328) :
    Calls Try.prog 5 #[.slice a n c] w fun e w' => e = .returned (.bool true) ∧ Below w.heap.size w w' := by
  have HH : Hid (IsNodes w a n D C T M B ∧ n ≤ 140737488355328 ∧ (∀ i, i < n → (B i).size ≤ 140737488355328)) := ⟨hn, hl, hB⟩
  have HM : Hid (Calls Try.prog 11 #[.slice a n c] w fun e w' => SmlR e n B ∧ Below w.heap.size w w') := small_any a n c D C T M B w hn hl hB
  clear hn hl hB
  go_enter Try.func5, Try.ntmps5
  go_wp2_with fail
  refine HM.out.mono ?_
  rintro e w1 ⟨⟨o, rfl, ho⟩, hb1⟩
  have ho' : Hid (o = true → bsum B n ≤ 67108864) := ho
  have HB1 : Hid (Below w.heap.size w w1) := hb1
  clear ho hb1 HM
  cases o
  · go_wp2_with fail
    go_ret
    exact ⟨rfl, HB1.out⟩
  have hSm : Hid (bsum B n ≤ 67108864) := ho'.out rfl
  have hnn : Hid (n ≤ 11184811) := by unfold Hid; have := bsum_six B n; have := hSm.out; omega
  clear ho'
  go_upto_region 5 with fail
  have HX : Hid (Box (w1.alloc (.cells #[.int .i64 (-7), .int .i64 0, .bool false, .int .i64 0, .string ⟨#[115, 112, 97, 114, 101]⟩] 39)) w1.heap.size 39 #[.int .i64 (-7), .int .i64 0, .bool false, .int .i64 0, .string ⟨#[115, 112, 97, 114, 101]⟩]) := Box.new _ _ _
  have HB2 : Hid (Below w.heap.size w (w1.alloc (.cells #[.int .i64 (-7), .int .i64 0, .bool false, .int .i64 0, .string ⟨#[115, 112, 97, 114, 101]⟩] 39))) := HB1.out.alloc HB1.out.size _
  obtain ⟨W0, hW0⟩ : ∃ W0, w1.alloc (.cells #[.int .i64 (-7), .int .i64 0, .bool false, .int .i64 0, .string ⟨#[115, 112, 97, 114, 101]⟩] 39) = W0 := ⟨_, rfl⟩
  rw [hW0] at HX HB2 ⊢
  obtain ⟨sp, hsp⟩ : ∃ g, w1.heap.size = g := ⟨_, rfl⟩
  rw [hsp] at HX ⊢
  clear hW0 hsp HB1
  have x0 := (at_of HX.out (j := 0) (v := .int .i64 (-7)) rfl).1
  have x1 := (at_of HX.out (j := 1) (v := .int .i64 0) rfl).1
  have x2 := (at_of HX.out (j := 2) (v := .bool false) rfl).1
  have x3 := (at_of HX.out (j := 3) (v := .int .i64 0) rfl).1
  have x4 := (at_of HX.out (j := 4) (v := .string ⟨#[115, 112, 97, 114, 101]⟩) rfl).1
  have hN : Hid (IsNodes W0 a n D C T M B) := HH.out.1.below HB2.out
  have hsz : Hid ((([] : List Nd).length + (nodesL n D C T M B).length) * 48 ≤ 140737488355328 ∧ ((nodesL n D C T M B).length + [spN].length) * 48 ≤ 140737488355328) := by
    unfold Hid
    rw [nodesL_len]
    have := hnn.out
    simp only [List.length_nil, List.length_cons]
    omega
  have hspl : Hid (sp < W0.heap.size) := HX.out.lt
  have FA : Hid (OwnN (W0.alloc (.cells #[] 39)).drew W0.heap.size (.slice (some ⟨W0.heap.size, 0, none⟩) 0 0) [] ∧ NdRow (W0.alloc (.cells #[] 39)).drew a (nodesL n D C T M B) ∧ Below W0.heap.size W0 (W0.alloc (.cells #[] 39)).drew) :=
    ⟨World.ownsRow.drew (ownN_empty W0 _ (Nat.le_refl _)), (isN_row hN.out).below (((Below.refl _ _).alloc (Nat.le_refl _) _).drew), ((Below.refl _ _).alloc (Nat.le_refl _) _).drew⟩
  have FB : Hid (OwnN ((W0.alloc (.cells #[.int .i64 (-7), .int .i64 0, .bool false, .int .i64 0, .string ⟨#[115, 112, 97, 114, 101]⟩] 39)).alloc (.cells #[] 39)).drew W0.heap.size (.slice (some ⟨W0.heap.size + 1, 0, none⟩) 0 0) [] ∧ NdRow ((W0.alloc (.cells #[.int .i64 (-7), .int .i64 0, .bool false, .int .i64 0, .string ⟨#[115, 112, 97, 114, 101]⟩] 39)).alloc (.cells #[] 39)).drew a (nodesL n D C T M B) ∧ Below W0.heap.size W0 ((W0.alloc (.cells #[.int .i64 (-7), .int .i64 0, .bool false, .int .i64 0, .string ⟨#[115, 112, 97, 114, 101]⟩] 39)).alloc (.cells #[] 39)).drew) := by
    have hb : Below W0.heap.size W0 ((W0.alloc (.cells #[.int .i64 (-7), .int .i64 0, .bool false, .int .i64 0, .string ⟨#[115, 112, 97, 114, 101]⟩] 39)).alloc (.cells #[] 39)).drew := (((Below.refl _ _).alloc (Nat.le_refl _) _).alloc (by simp) _).drew
    refine ⟨?_, (isN_row hN.out).below hb, hb⟩
    have := ownN_empty (W0.alloc (.cells #[.int .i64 (-7), .int .i64 0, .bool false, .int .i64 0, .string ⟨#[115, 112, 97, 114, 101]⟩] 39)) W0.heap.size (by simp)
    rw [show (W0.alloc (.cells #[.int .i64 (-7), .int .i64 0, .bool false, .int .i64 0, .string ⟨#[115, 112, 97, 114, 101]⟩] 39)).heap.size = W0.heap.size + 1 from by simp] at this
    exact World.ownsRow.drew this
  have FC : Hid (OwnN ((W0.alloc (.cells #[] 39)).alloc (.cells #[.int .i64 (-7), .int .i64 0, .bool false, .int .i64 0, .string ⟨#[115, 112, 97, 114, 101]⟩] 39)).drew W0.heap.size (.slice (some ⟨W0.heap.size, 0, none⟩) 0 0) [] ∧ NdRow ((W0.alloc (.cells #[] 39)).alloc (.cells #[.int .i64 (-7), .int .i64 0, .bool false, .int .i64 0, .string ⟨#[115, 112, 97, 114, 101]⟩] 39)).drew a (nodesL n D C T M B) ∧ Below W0.heap.size W0 ((W0.alloc (.cells #[] 39)).alloc (.cells #[.int .i64 (-7), .int .i64 0, .bool false, .int .i64 0, .string ⟨#[115, 112, 97, 114, 101]⟩] 39)).drew) := by
    have hb : Below W0.heap.size W0 ((W0.alloc (.cells #[] 39)).alloc (.cells #[.int .i64 (-7), .int .i64 0, .bool false, .int .i64 0, .string ⟨#[115, 112, 97, 114, 101]⟩] 39)).drew := (((Below.refl _ _).alloc (Nat.le_refl _) _).alloc (by simp) _).drew
    exact ⟨World.ownsRow.drew (World.ownsRow.alloc (ownN_empty W0 _ (Nat.le_refl _)) _), (isN_row hN.out).below hb, hb⟩
  have gB : Hid (((W0.alloc (.cells #[.int .i64 (-7), .int .i64 0, .bool false, .int .i64 0, .string ⟨#[115, 112, 97, 114, 101]⟩] 39)).alloc (.cells #[] 39)).drew.heap[W0.heap.size]? = some (.cells #[.int .i64 (-7), .int .i64 0, .bool false, .int .i64 0, .string ⟨#[115, 112, 97, 114, 101]⟩] 39 (0, 0)) ∧ W0.heap.size < ((W0.alloc (.cells #[.int .i64 (-7), .int .i64 0, .bool false, .int .i64 0, .string ⟨#[115, 112, 97, 114, 101]⟩] 39)).alloc (.cells #[] 39)).drew.heap.size) := by
    have h : Box (W0.alloc (.cells #[.int .i64 (-7), .int .i64 0, .bool false, .int .i64 0, .string ⟨#[115, 112, 97, 114, 101]⟩] 39)) W0.heap.size 39 #[.int .i64 (-7), .int .i64 0, .bool false, .int .i64 0, .string ⟨#[115, 112, 97, 114, 101]⟩] := Box.new _ _ _
    exact ⟨h.past _, (h.past _).lt⟩
  have gC : Hid (((W0.alloc (.cells #[] 39)).alloc (.cells #[.int .i64 (-7), .int .i64 0, .bool false, .int .i64 0, .string ⟨#[115, 112, 97, 114, 101]⟩] 39)).drew.heap[W0.heap.size + 1]? = some (.cells #[.int .i64 (-7), .int .i64 0, .bool false, .int .i64 0, .string ⟨#[115, 112, 97, 114, 101]⟩] 39 (0, 0)) ∧ W0.heap.size + 1 < ((W0.alloc (.cells #[] 39)).alloc (.cells #[.int .i64 (-7), .int .i64 0, .bool false, .int .i64 0, .string ⟨#[115, 112, 97, 114, 101]⟩] 39)).drew.heap.size) := by
    have h : Box ((W0.alloc (.cells #[] 39)).alloc (.cells #[.int .i64 (-7), .int .i64 0, .bool false, .int .i64 0, .string ⟨#[115, 112, 97, 114, 101]⟩] 39)) (W0.heap.size + 1) 39 #[.int .i64 (-7), .int .i64 0, .bool false, .int .i64 0, .string ⟨#[115, 112, 97, 114, 101]⟩] := by
      have := Box.new (W0.alloc (.cells #[] 39)) 39 #[.int .i64 (-7), .int .i64 0, .bool false, .int .i64 0, .string ⟨#[115, 112, 97, 114, 101]⟩]
      simpa using this
    exact ⟨h, h.lt⟩
  have z0 : (W0.alloc (.cells #[] 39)).cell? ⟨sp, 0, none⟩ = some (.int .i64 (-7)) := by rw [World.cell?_alloc_past _ _ _ hspl.out]; exact x0
  have z1 : (W0.alloc (.cells #[] 39)).cell? ⟨sp, 1, none⟩ = some (.int .i64 0) := by rw [World.cell?_alloc_past _ _ _ hspl.out]; exact x1
  have z2 : (W0.alloc (.cells #[] 39)).cell? ⟨sp, 2, none⟩ = some (.bool false) := by rw [World.cell?_alloc_past _ _ _ hspl.out]; exact x2
  have z3 : (W0.alloc (.cells #[] 39)).cell? ⟨sp, 3, none⟩ = some (.int .i64 0) := by rw [World.cell?_alloc_past _ _ _ hspl.out]; exact x3
  have z4 : (W0.alloc (.cells #[] 39)).cell? ⟨sp, 4, none⟩ = some (.string ⟨#[115, 112, 97, 114, 101]⟩) := by rw [World.cell?_alloc_past _ _ _ hspl.out]; exact x4
  go_cut [5] (fun fv wx => OwnN wx W0.heap.size fv (nodesL n D C T M B ++ [spN]) ∧ Below W0.heap.size W0 wx)
  case first =>
    go_region_law (first
      | (refine step_nodes _ rfl (.tmp 17) (.tmp 18) rfl rfl W0.heap.size [] (nodesL n D C T M B) a c _ rfl ?_ FA.out.1 FA.out.2.1 FA.out.2.2.size hsz.out.1 ?_; (rw [nodesL_len]; rfl); intro v1 wA hoA hbA hfA; have y0 : wA.cell? ⟨sp, 0, none⟩ = some (.int .i64 (-7)) := ((FA.out.2.2.trans hbA).cell hspl.out).trans x0; have y1 : wA.cell? ⟨sp, 1, none⟩ = some (.int .i64 0) := ((FA.out.2.2.trans hbA).cell hspl.out).trans x1; have y2 : wA.cell? ⟨sp, 2, none⟩ = some (.bool false) := ((FA.out.2.2.trans hbA).cell hspl.out).trans x2; have y3 : wA.cell? ⟨sp, 3, none⟩ = some (.int .i64 0) := ((FA.out.2.2.trans hbA).cell hspl.out).trans x3; have y4 : wA.cell? ⟨sp, 4, none⟩ = some (.string ⟨#[115, 112, 97, 114, 101]⟩) := ((FA.out.2.2.trans hbA).cell hspl.out).trans x4)
      | (refine step_nodes _ rfl (.tmp 17) (.tmp 18) rfl rfl W0.heap.size [] (nodesL n D C T M B) a c _ rfl ?_ FB.out.1 FB.out.2.1 FB.out.2.2.size hsz.out.1 ?_; (rw [nodesL_len]; rfl); intro v1 wB hoB hbB hfB)
      | (refine step_nodes _ rfl (.tmp 17) (.tmp 18) rfl rfl W0.heap.size [] (nodesL n D C T M B) a c _ rfl ?_ FC.out.1 FC.out.2.1 FC.out.2.2.size hsz.out.1 ?_; (rw [nodesL_len]; rfl); intro v1 wC hoC hbC hfC)
      | (refine step_nodes _ rfl (.tmp 19) (.tmp 21) rfl rfl W0.heap.size (nodesL n D C T M B) [spN] (some ⟨wA.heap.size, 0, none⟩) 1 _ rfl rfl (World.ownsRow.alloc hoA _) (row_one (Box.new _ _ _)) (Nat.le_trans FA.out.2.2.size (Nat.le_trans hbA.size (by simp))) hsz.out.2 ?_; intro v2 wF hoF hbF _; have hres : Hid (OwnN wF W0.heap.size v2 (nodesL n D C T M B ++ [spN]) ∧ Below W0.heap.size W0 wF) := ⟨hoF, ((FA.out.2.2.trans hbA).alloc (Nat.le_trans FA.out.2.2.size hbA.size) _).trans hbF⟩)
      | (refine step_nodes _ rfl (.tmp 19) (.tmp 21) rfl rfl W0.heap.size (nodesL n D C T M B) [spN] (some ⟨W0.heap.size, 0, none⟩) 1 _ rfl rfl hoB (row_one ((hfB _ gB.out.2 (by show some (W0.heap.size + 1) ≠ some W0.heap.size; simp)).trans gB.out.1)) (Nat.le_trans FB.out.2.2.size hbB.size) hsz.out.2 ?_; intro v2 wF hoF hbF _; have hres : Hid (OwnN wF W0.heap.size v2 (nodesL n D C T M B ++ [spN]) ∧ Below W0.heap.size W0 wF) := ⟨hoF, (FB.out.2.2.trans hbB).trans hbF⟩)
      | (refine step_nodes _ rfl (.tmp 19) (.tmp 21) rfl rfl W0.heap.size (nodesL n D C T M B) [spN] (some ⟨W0.heap.size + 1, 0, none⟩) 1 _ rfl rfl hoC (row_one ((hfC _ gC.out.2 (by show some W0.heap.size ≠ some (W0.heap.size + 1); simp)).trans gC.out.1)) (Nat.le_trans FC.out.2.2.size hbC.size) hsz.out.2 ?_; intro v2 wF hoF hbF _; have hres : Hid (OwnN wF W0.heap.size v2 (nodesL n D C T M B ++ [spN]) ∧ Below W0.heap.size W0 wF) := ⟨hoF, (FC.out.2.2.trans hbC).trans hbF⟩))
    all_goals (go_wp2_with fail; go_meet; case rel => exact hres.out)
  case rest =>
    obtain ⟨hoF, hbF⟩ := hcut
    clear FA FB FC gB gC hsz z0 z1 z2 z3 z4
    obtain ⟨g, cap, rfl, hcap⟩ : ∃ g cap, u5 = .slice (some ⟨g, 0, none⟩) (n + 1) cap ∧ n + 1 ≤ cap := by
      have hlen : (nodesL n D C T M B ++ [spN]).length = n + 1 := by rw [List.length_append, nodesL_len]; rfl
      rcases hoF.2 with ⟨rfl, h⟩ | ⟨g, cap, cur, rfl, _, _, h, _⟩
      · omega
      · rw [hlen] at h ⊢
        exact ⟨g, cap, rfl, h⟩
    have hrow := (ownN_row hoF).1
    have n0 : (0 : Int) ≤ (n : Int) := Int.natCast_nonneg _
    have n1 : n ≤ cap := by omega
    have n2 : (n : Int) < ((n + 1 : Nat) : Int) := Int.ofNat_lt.2 (Nat.lt_succ_self _)
    have HN1 : Hid (IsNodes wc (some ⟨g, 0, none⟩) n D C T M B) := row_isN hrow
    have HN2 : Hid (IsNodes wc a n D C T M B) := hN.out.below hbF
    have HR : Hid (NdRow wc (some ⟨g, 0, none⟩) (nodesL n D C T M B ++ [spN])) := hrow
    have HB3 : Hid (Below w.heap.size w wc) := HB2.out.trans (hbF.mono HB2.out.size)
    have HX3 : Hid (Box wc sp 39 #[.int .i64 (-7), .int .i64 0, .bool false, .int .i64 0, .string ⟨#[115, 112, 97, 114, 101]⟩]) := HX.out.of (hbF.block _ hspl.out)
    clear hrow hoF hbF hcap x0 x1 x2 x3 x4 hN HX HB2 hspl
    have HW : Hid (Calls Try.prog 13 #[.slice (some ⟨g, 0, none⟩) n cap] wc fun e w' => WrE e n D C T M B ∧ Below wc.heap.size wc w') := write_any (some ⟨g, 0, none⟩) n cap D C T M B wc HN1.out hSm.out
    go_wp2_with fail
    refine HW.out.mono ?_
    rintro e w3 ⟨hE, hb3⟩
    clear HW
    have HRW : Hid (Calls Try.prog 14 #[.slice a n c] w3 fun e w' => WrE e n D C T M B ∧ Below w3.heap.size w3 w') := rWrite_any a n c D C T M B w3 (HN2.out.below hb3) hSm.out
    have HB4 : Hid (Below wc.heap.size wc w3) := hb3
    have HE : Hid (WrE e n D C T M B) := hE
    obtain ⟨xs, cc, qq, he, _⟩ := wr_unique hSm.out hE hE
    subst he
    clear hb3 hE
    go_wp2_with fail
    refine HRW.out.mono ?_
    rintro e w4 ⟨hE, hb4⟩
    obtain ⟨xs', cc', qq', he, he'⟩ := wr_unique hSm.out HE.out hE
    rw [he'] at hE ⊢
    clear he he' xs' cc' qq'
    have HB5 : Hid (Below wc.heap.size wc w4) := HB4.out.trans (hb4.mono HB4.out.size)
    clear HRW hb4 hE HE HB4
    have HR5 : Hid (NdRow w4 (some ⟨g, 0, none⟩) (nodesL n D C T M B ++ [spN])) := HR.out.below HB5.out
    have HN5 : Hid (IsNodes w4 a n D C T M B) := HN2.out.below HB5.out
    have HX5 : Hid (Box w4 sp 39 #[.int .i64 (-7), .int .i64 0, .bool false, .int .i64 0, .string ⟨#[115, 112, 97, 114, 101]⟩]) := HX3.out.below HB5.out
    have HB6 : Hid (Below w.heap.size w w4) := HB3.out.trans (HB5.out.mono HB3.out.size)
    clear HR HN1 HN2 HX3 HB3 HB5 HH
    have x0 := (at_of HX5.out (j := 0) (v := .int .i64 (-7)) rfl).1
    have x1 := (at_of HX5.out (j := 1) (v := .int .i64 0) rfl).1
    have x2 := (at_of HX5.out (j := 2) (v := .bool false) rfl).1
    have x3 := (at_of HX5.out (j := 3) (v := .int .i64 0) rfl).1
    have x4 := (at_of HX5.out (j := 4) (v := .string ⟨#[115, 112, 97, 114, 101]⟩) rfl).1
    obtain ⟨b', o', e', y0, y1, y2, y3, y4⟩ := HR5.out n (by rw [List.length_append, nodesL_len]; exact Nat.lt_succ_self _)
    have e1 : g = b' := congrArg Addr.block (Option.some.inj e')
    have e2 : 0 = o' := congrArg Addr.off (Option.some.inj e')
    subst e1 e2
    have hlast : (nodesL n D C T M B ++ [spN])[n]'(by rw [List.length_append, nodesL_len]; exact Nat.lt_succ_self _) = spN := by
      rw [List.getElem_append_right (by rw [nodesL_len]; exact Nat.le_refl _)]
      simp [nodesL_len]
    rw [hlast] at y0 y1 y2 y3 y4
    simp only [spN, Nat.zero_add] at y0 y1 y2 y3 y4
    have hSN : Hid (∀ W, NdRow W (some ⟨g, 0, none⟩) (nodesL n D C T M B ++ [spN]) → IsNodes W a n D C T M B → Calls Try.prog 15 #[.slice (some ⟨g, 0, none⟩) n cap, .slice a n c] W fun r w' => r = .returned (.bool true) ∧ ∃ q, w' = W.drewN q) := fun W h1 h2 => by
      have := sameNodes_q (nodesL n D C T M B) (some ⟨g, 0, none⟩) a cap c W (by rw [nodesL_len]; have := hnn.out; omega) (fun i hi => by
        obtain ⟨b, off, e, q⟩ := h1 i (by rw [List.length_append]; omega)
        rw [List.getElem_append_left hi] at q
        exact ⟨b, off, e, q⟩) (isN_row h2)
      rw [nodesL_len] at this
      exact this
    have hSN4 : Hid (∀ k, Calls Try.prog 15 #[.slice (some ⟨g, 0, none⟩) n cap, .slice a n c] (w4.drewN k) fun r w' => r = .returned (.bool true) ∧ ∃ q, w' = (w4.drewN k).drewN q) := fun k => hSN.out _ (fun i hi => HR5.out i hi) (fun i hi => HN5.out i hi)
    have hEq := fun W => eq_node (-7) 0 false 0 ⟨#[115, 112, 97, 114, 101]⟩ W
    have hend : Hid (∀ q, Below w.heap.size w (w4.drewN q)) := fun q => HB6.out.trans ⟨rfl, rfl, rfl, Nat.le_refl _, fun _ _ => rfl⟩
    clear hSN HR5 HN5 HX5 HB6 hSm hnn e' hlast
    go_wp2_with fail
    go_quiet ((go_at_call 15; exact Calls.quiet_of (hSN4.out _)))
    go_wp2_with fail
    go_ret
    exact ⟨rfl, hend.out _⟩
end Go.Proofs.Ytgfonnjblbpogaa
