import Derived.Test.YtgfonnjblbpogaaBePm
namespace Go.Proofs.Ytgfonnjblbpogaa
open Go.RowKit Go.Shelf
open BerMath (Hd HR num hAt wAt El TR elEnd endE one andThen kids)
open BtSeq (SeqP postP range_p region_round postP_shut SeqL OwnLow below_put range_l)
attribute [local go_sem] Oper.semAt_some
set_option linter.unusedVariables false

/-- The law's variables, so many headers having come. -/
def PI (w w4 W1 : World) (a : Option Addr) (n c : Nat) (P : Nat → Nat) (pre : List El) (U : World) : Prop :=
  Boxed U w4.heap.size 3 (.int .i64 (pre.length : Int)) ∧ Boxed U (w4.heap.size + 1) 3 (.int .i64 (P pre.length : Int)) ∧ Boxed U w.heap.size 33 (.slice a n c) ∧ Boxed U (w.heap.size + 1) 4 (.bool false) ∧ Below W1.heap.size W1 U ∧ w4.heap.size + 3 ≤ U.heap.size
theorem pi_low {w w4 W1 : World} {a : Option Addr} {n c : Nat} {P : Nat → Nat} (h1 : W1.heap.size ≤ w4.heap.size) (h2 : w.heap.size + 1 < w4.heap.size) : OwnLow (w4.heap.size + 3) (PI w w4 W1 a n c P) := fun s A B h hb =>
  ⟨(hb.block _ (by omega)).trans h.1, (hb.block _ (by omega)).trans h.2.1, (hb.block _ (by omega)).trans h.2.2.1, (hb.block _ (by omega)).trans h.2.2.2.1, h.2.2.2.2.1.trans (hb.mono (by omega)), Nat.le_trans h.2.2.2.2.2 hb.size⟩

set_option maxRecDepth 100000 in
set_option maxHeartbeats 4000000 in
theorem berPlaces_walk (a : Option Addr) (n c : Nat) (D C T : Nat → Int) (M : Nat → Bool) (B : Nat → ByteArray) (fa : Option Addr) (fn fc : Nat) (F : Nat → Int) (w : World) (hn : IsNodes w a n D C T M B) (hf : FInts w fa fn F) (hl : n ≤ 140737488355328) (hB : ∀ i, i < n → (B i).size ≤ 140737488355328) :
    Calls Try.prog 4 #[.slice a n c, .slice fa fn fc] w fun e w' => e = .returned (.bool true) ∧ Below w.heap.size w w' := by
  have hdd : ∀ k : Nat, (Fence.wide.depth.isSome = true → 1 ≤ k) := fun k h => (by cases h)
  obtain ⟨W1, hW1⟩ : ∃ W1, (w.alloc (.cells #[.slice a n c] 33)).alloc (.cells #[.bool false] 4) = W1 := ⟨_, rfl⟩
  have hB1 : Below w.heap.size w W1 := by rw [← hW1]; exact ((Below.refl _ _).alloc (Nat.le_refl _) _).alloc (by simp) _
  have bN1 : Boxed W1 w.heap.size 33 (.slice a n c) := by rw [← hW1]; exact (Boxed.new w _ _).alloc _
  have bR1 : Boxed W1 (w.heap.size + 1) 4 (.bool false) := by
    rw [← hW1]
    have := Boxed.new (w.alloc (.cells #[.slice a n c] 33)) 4 (.bool false)
    rwa [World.size_alloc] at this
  have HH : Hid (IsNodes W1 a n D C T M B ∧ FInts W1 fa fn F ∧ n ≤ 140737488355328 ∧ (∀ i, i < n → (B i).size ≤ 140737488355328)) := ⟨hn.below hB1, hf.below hB1, hl, hB⟩
  have HS : Hid (Calls Try.prog 10 #[.slice a n c] W1 fun e w' => SndR e n D C T M B ∧ Below W1.heap.size W1 w') := sound_any a n c D C T M B W1 HH.out.1 hl
  have HB1 : Hid (Below w.heap.size w W1) := hB1
  have HN1 : Hid (Boxed W1 w.heap.size 33 (.slice a n c) ∧ Boxed W1 (w.heap.size + 1) 4 (.bool false)) := ⟨bN1, bR1⟩
  have c1 := bN1.cell
  clear hn hf hl hB hB1 bN1 bR1
  refine (callsIn_wide (n := 5)).1 ?_
  refine callsIn_of_wp_marks Try.func4 rfl trivial ?_ rfl
  simp only [Try.ntmps4, List.size_toArray, List.length_cons, List.length_nil, Nat.reduceAdd, Nat.reduceSub, Array.replicate_succ, Array.replicate_zero, List.push_toArray, List.append_toArray, List.nil_append, List.cons_append]
  gi_wp2_with fail
  try rw [hW1]
  refine ⟨trivial, (callsIn_wide.2 HS.out).mono ?_⟩
  rintro e w2 ⟨⟨g, rfl, hg⟩, hb2⟩
  have HB2 : Hid (Below W1.heap.size W1 w2) := hb2
  have HN2 : Hid (Boxed w2 w.heap.size 33 (.slice a n c) ∧ Boxed w2 (w.heap.size + 1) 4 (.bool false)) := ⟨(hb2.block _ HN1.out.1.lt).trans HN1.out.1, (hb2.block _ HN1.out.2.lt).trans HN1.out.2⟩
  have HM : Hid (Calls Try.prog 11 #[.slice a n c] w2 fun e w' => SmlR e n B ∧ Below w2.heap.size w2 w') := small_any a n c D C T M B w2 (HH.out.1.below hb2) HH.out.2.2.1 HH.out.2.2.2
  have hg' : Hid (g = true → 0 < n ∧ ∀ i, i < n → Good D C T M B i) := hg
  have c2 := HN2.out.1.cell
  clear hg hb2 HS c1
  gi_wp2_with fail
  refine ⟨trivial, (callsIn_wide.2 HM.out).mono ?_⟩
  rintro e w3 ⟨⟨o, rfl, ho⟩, hb3⟩
  have HB3 : Hid (Below W1.heap.size W1 w3) := HB2.out.trans (hb3.mono HB2.out.size)
  have HN3 : Hid (Boxed w3 w.heap.size 33 (.slice a n c) ∧ Boxed w3 (w.heap.size + 1) 4 (.bool false)) := ⟨(hb3.block _ HN2.out.1.lt).trans HN2.out.1, (hb3.block _ HN2.out.2.lt).trans HN2.out.2⟩
  have ho' : Hid (o = true → bsum B n ≤ 67108864) := ho
  have c3 := HN3.out.1.cell
  have r3 := HN3.out.2.cell
  have f3 := HN3.out.2.frozen
  have hfinB : Hid (Below w.heap.size w (w3.setCell ⟨w.heap.size + 1, 0, none⟩ (.bool true))) := (HB1.out.trans (HB3.out.mono HB1.out.size)).setCell (Nat.le_succ _) _
  have hfinC : (w3.setCell ⟨w.heap.size + 1, 0, none⟩ (.bool true)).cell? ⟨w.heap.size + 1, 0, none⟩ = some (.bool true) := (HN3.out.2.set _).cell
  clear ho hb3 HM c2
  cases g
  · gi_wp2_with fail
    refine ⟨.bool true, by simp [results, Try.results4, go_sem, hfinC], rfl, hfinB.out⟩
  cases o
  · gi_wp2_with fail
    refine ⟨.bool true, by simp [results, Try.results4, go_sem, hfinC], rfl, hfinB.out⟩
  have hGd : Hid (0 < n ∧ ∀ i, i < n → Good D C T M B i) := hg'.out rfl
  have hSm : Hid (bsum B n ≤ 67108864) := ho'.out rfl
  have HSp : Hid (Calls Try.prog 12 #[.slice a n c, .slice fa fn fc] w3 fun e w' => SplR e n D C T M B ∧ Below w3.heap.size w3 w') := spelt_any a n c D C T M B fa fn fc F w3 (HH.out.1.below HB3.out) (HH.out.2.1.below HB3.out) hGd.out.2 hGd.out.1 hSm.out
  clear hg' ho' hfinB hfinC r3 f3
  gi_wp2_with fail
  refine ⟨trivial, (callsIn_wide.2 HSp.out).mono ?_⟩
  rintro e w4 ⟨⟨H, σ, sh, rfl, hI⟩, hb4⟩
  have HB4 : Hid (Below W1.heap.size W1 w4) := HB3.out.trans (hb4.mono HB3.out.size)
  have HN4 : Hid (Boxed w4 w.heap.size 33 (.slice a n c) ∧ Boxed w4 (w.heap.size + 1) 4 (.bool false)) := ⟨(hb4.block _ HN3.out.1.lt).trans HN3.out.1, (hb4.block _ HN3.out.2.lt).trans HN3.out.2⟩
  have hlen := spX_len hGd.out.1 hI hSm.out
  have hX1 : (S (outB H B 0 n)).size = (outB H B 0 n).length := S_size _
  obtain ⟨E, P, hP⟩ := plc_of (spX_of hI) hGd.out.2 hGd.out.1
  rw [← hX1] at hlen
  obtain ⟨X, hXX⟩ : ∃ X, X = S (outB H B 0 n) := ⟨_, rfl⟩
  rw [← hXX] at hlen hP ⊢
  have HP : Hid (Plc n C T M B E P X ∧ X.size ≤ 67108864) := ⟨hP, hlen⟩
  have hnn : Hid (n ≤ 67108864) := by unfold Hid; have := bsum_six B n; have := hSm.out; omega
  clear hI hXX hX1 HSp hb4 hSm hP hlen c3
  have hEl : ∀ W', Hid (Calls Try.prog 9 #[.string X] W' fun r w' => r = .returned (.func (.func 29) #[] #[.pointer (some ⟨W'.heap.size, 0, none⟩)]) ∧ w' = W'.alloc (.cells #[.string X] 9)) := fun W' => elems_any X W'
  have hnil := nil_seq #[.pointer (some ⟨w4.heap.size + 2, 0, none⟩)]
  gi_wp2_with (refine ⟨trivial, ?_⟩; gi_at_call 9; refine (callsIn_wide.2 (hEl _).out).mono ?_; rintro r w5 ⟨rfl, rfl⟩)
  obtain ⟨W5, hW5⟩ : ∃ W5, ((w4.alloc (.cells #[.int .i64 0] 3)).alloc (.cells #[.int .i64 0] 3)).alloc (.cells #[.string X] 9) = W5 := ⟨_, rfl⟩
  have hs5 : W5.heap.size = w4.heap.size + 3 := by rw [← hW5]; simp
  have hb5 : Below w4.heap.size w4 W5 := by rw [← hW5]; exact (((Below.refl _ _).alloc (Nat.le_refl _) _).alloc (by simp) _).alloc (by simp; omega) _
  have hsb5 : W5.heap[w4.heap.size + 2]? = some (.cells #[.string X] 9 (0, 0)) := by
    rw [← hW5]
    have := World.alloc_heap_new ((w4.alloc (.cells #[.int .i64 0] 3)).alloc (.cells #[.int .i64 0] 3)) (.cells #[.string X] 9)
    rwa [World.size_alloc, World.size_alloc] at this
  have hI0 : PI w w4 W1 a n c P [] W5 := by
    refine ⟨?_, ?_, (hb5.block _ HN4.out.1.lt).trans HN4.out.1, (hb5.block _ HN4.out.2.lt).trans HN4.out.2, HB4.out.trans (hb5.mono HB4.out.size), by omega⟩
    · rw [← hW5]; exact ((Boxed.new w4 _ _).alloc _).alloc _
    · rw [← hW5, show P ([] : List El).length = 0 from HP.out.1.first]
      have := Boxed.new (w4.alloc (.cells #[.int .i64 0] 3)) 3 (.int .i64 ((0 : Nat) : Int))
      rw [World.size_alloc] at this
      exact this.alloc _
  rw [hW5]
  have hW14 : Hid (W1.heap.size ≤ w4.heap.size ∧ w.heap.size + 1 < w4.heap.size) := ⟨HB4.out.size, HN4.out.2.lt⟩
  clear hEl hnil hW5
  refine range_l (by decide) (gf := 29) (lb := #[.pointer (some ⟨w4.heap.size + 2, 0, none⟩)]) rfl (enters_of Try.func29 (by kernel_rfl) rfl)
    (elems1_any 4 (by decide) X (by have := HP.out.2; omega) (w4.heap.size + 2) W5 hsb5) (fun h h' => KV.trans h h') (fun W l o o' _ hl ho _ => kv_put W l o o' hl ho) (Below.refl _ _) (fun _ => rfl)
    (PI w w4 W1 a n c P) (fun _ _ _ => False) (by rw [hs5]; exact pi_low hW14.out.1 hW14.out.2) (fun _ _ _ _ h _ => h) hI0
    (fun x a' U => ∃ Hx, w4.heap.size + 3 ≤ Hx ∧ U.heap[Hx]? = some (.cells #[.int .i64 (x.2.1.cls : Int), .bool x.2.1.made, .int .i64 (x.2.1.tag : Int), .int .i64 (x.2.1.len : Int), .int .i64 (x.2.1.size : Int)] 29 (0, 0)) ∧ Hx < U.heap.size ∧ a' = { tmps := #[.slice a n c, .slice fa fn fc, .pointer (some ⟨w.heap.size, 0, none⟩), undef, .pointer (some ⟨w.heap.size + 1, 0, none⟩), .bool true, .bool true, .string X, .bool sh, .pointer (some ⟨w4.heap.size, 0, none⟩), .pointer (some ⟨w4.heap.size + 1, 0, none⟩), .func (.func 29) #[] #[.pointer (some ⟨w4.heap.size + 2, 0, none⟩)], .int .i64 (x.1 : Int), .pointer (some ⟨Hx, 0, none⟩), undef, .slice a n c, .bool true, .slice a n c, .bool true, .bool true, .bool false, .bool false, .bool true, .bool false, .bool false, .tuple #[.string X, .bool sh], .slice a n c, .slice fa fn fc, .tuple #[.string X, .bool sh], .string X, .bool sh, .string X, .func (.func 29) #[] #[.pointer (some ⟨w4.heap.size + 2, 0, none⟩)], .func (.func 29) #[] #[.pointer (some ⟨w4.heap.size + 2, 0, none⟩)], .bool false, .func (.func 29) #[] #[.pointer (some ⟨w4.heap.size + 2, 0, none⟩)], .int .i64 (x.1 : Int), .agg #[.int .i64 (x.2.1.cls : Int), .bool x.2.1.made, .int .i64 (x.2.1.tag : Int), .int .i64 (x.2.1.len : Int), .int .i64 (x.2.1.size : Int)], undef, undef, undef, undef, undef, undef, undef, undef, undef, undef, undef, undef, undef, undef, undef, undef, undef, undef, undef, undef, undef, undef, undef, undef, undef, undef, undef, undef, undef, undef, undef, undef, undef, undef, undef, undef, undef, undef, undef, undef, undef, undef, undef, undef, undef, undef, undef, undef, undef, undef, undef, undef, undef, undef, undef, undef, undef, undef, undef, undef, undef, undef, undef, undef, undef, undef, undef, undef, undef, undef, undef, undef, undef], defers := [] })
    ?hAx ?assign ?body ?done ?stop
  case hAx =>
    rintro x a' _ U U' row ⟨Hx, q1, q2, q3, q4⟩ hg hr
    refine ⟨Hx, q1, (hg.block Hx q3 (fun e => ?_)).trans q2, Nat.lt_of_lt_of_le q3 hg.size, q4⟩
    obtain ⟨_, o, ho, hc⟩ := hr Hx e.symm
    rw [q2] at ho
    injection ho with ho
    subst ho
    cases hc
  case assign =>
    rintro l' pre ⟨p, h, d⟩ U K hi hp hK
    have hWs := hi.2.2.2.2.2
    have hK' := hK { tmps := #[.slice a n c, .slice fa fn fc, .pointer (some ⟨w.heap.size, 0, none⟩), undef, .pointer (some ⟨w.heap.size + 1, 0, none⟩), .bool true, .bool true, .string X, .bool sh, .pointer (some ⟨w4.heap.size, 0, none⟩), .pointer (some ⟨w4.heap.size + 1, 0, none⟩), .func (.func 29) #[] #[.pointer (some ⟨w4.heap.size + 2, 0, none⟩)], .int .i64 (p : Int), .pointer (some ⟨U.heap.size, 0, none⟩), undef, .slice a n c, .bool true, .slice a n c, .bool true, .bool true, .bool false, .bool false, .bool true, .bool false, .bool false, .tuple #[.string X, .bool sh], .slice a n c, .slice fa fn fc, .tuple #[.string X, .bool sh], .string X, .bool sh, .string X, .func (.func 29) #[] #[.pointer (some ⟨w4.heap.size + 2, 0, none⟩)], .func (.func 29) #[] #[.pointer (some ⟨w4.heap.size + 2, 0, none⟩)], .bool false, .func (.func 29) #[] #[.pointer (some ⟨w4.heap.size + 2, 0, none⟩)], .int .i64 (p : Int), .agg #[.int .i64 (h.cls : Int), .bool h.made, .int .i64 (h.tag : Int), .int .i64 (h.len : Int), .int .i64 (h.size : Int)], undef, undef, undef, undef, undef, undef, undef, undef, undef, undef, undef, undef, undef, undef, undef, undef, undef, undef, undef, undef, undef, undef, undef, undef, undef, undef, undef, undef, undef, undef, undef, undef, undef, undef, undef, undef, undef, undef, undef, undef, undef, undef, undef, undef, undef, undef, undef, undef, undef, undef, undef, undef, undef, undef, undef, undef, undef, undef, undef, undef, undef, undef, undef, undef, undef, undef, undef, undef, undef, undef, undef, undef, undef], defers := [] } (U.alloc (.cells #[.int .i64 (h.cls : Int), .bool h.made, .int .i64 (h.tag : Int), .int .i64 (h.len : Int), .int .i64 (h.size : Int)] 29)) ((KeepsOthers.alloc U _).from _) (KV.of_below ((Below.refl _ _).alloc (Nat.le_refl _) _)) (pi_low hW14.out.1 hW14.out.2 _ _ _ hi ((Below.refl _ _).alloc hWs _)) ⟨U.heap.size, hWs, World.alloc_heap_new U _, by simp, rfl⟩
    clear hK hi hp
    gi_wp2
    exact hK'
  case body =>
    rintro l' pre ⟨p, ⟨cl, md, tg, L, z⟩, d⟩ a' U hl hlr hI ⟨Hx, hHx, hx, hxl, rfl⟩ hpx
    dsimp only at hx ⊢
    obtain ⟨i1, i2, i3, i4, i5, i6⟩ := hI
    obtain ⟨m, hm⟩ : ∃ m, pre.length = m := ⟨_, rfl⟩
    have hPc := HP.out.1
    have hmn : m < n := by
      have := hpx.length_le
      rw [hPc.list, List.length_map, List.length_range, List.length_append, hm] at this
      simp at this
      omega
    have hxE : (p, (⟨cl, md, tg, L, z⟩ : Hd), d) = E m := by
      obtain ⟨t, ht⟩ := hpx
      have h1 : (tr X).1[m]? = some (p, (⟨cl, md, tg, L, z⟩ : Hd), d) := by
        rw [← ht, ← hm]
        simp
      rw [hPc.list] at h1
      simpa [hmn] using h1.symm
    have f1 := hPc.at_ m hmn
    have f2 := hPc.cls m hmn
    have f3 := hPc.made m hmn
    have f4 := hPc.tag m hmn
    have f5 := hPc.len m hmn
    have f6 := hPc.two m hmn
    have f7 := hPc.next m hmn
    have f8 := hPc.mono (m + 1) hmn
    rw [← hxE] at f1 f2 f3 f4 f5 f6 f7
    dsimp only at f1 f2 f3 f4 f5 f6 f7
    have hX64 := HP.out.2
    have hn64 := hnn.out
    obtain ⟨b, off, rfl, c0, c1, c2, c3, c4⟩ := (HH.out.1.below i5) m hmn
    rw [hm] at i1 i2
    rw [← f1] at i2 f7
    rw [← f2] at c1
    rw [← f3] at c2 f5 f7
    rw [← f4] at c3
    have m0 : (0 : Int) ≤ (m : Int) := Int.natCast_nonneg _
    have m1 : (m : Int) < (n : Int) := Int.ofNat_lt.2 hmn
    have m2 : ¬ (m : Int) ≥ (n : Int) := by omega
    have z2 : ¬ (z : Int) < 2 := by omega
    have hw14a := hW14.out.1
    have hw14b := hW14.out.2
    obtain ⟨mm, hmm⟩ : ∃ mm, mm = m + 1 := ⟨_, rfl⟩
    obtain ⟨pz, hpz⟩ : ∃ pz, pz = p + z := ⟨_, rfl⟩
    have hbq : Hid (md = false → pz + L ≤ 4294967296) := fun h => by rw [h, if_neg (by decide)] at f7; omega
    have wm : Hid (wrap64 ((m : Int) + 1) = (mm : Int)) := by unfold Hid; rw [hmm]; exact wp_one m (by omega)
    have wp : Hid (wrap64 ((p : Int) + (z : Int)) = (pz : Int)) := by unfold Hid; rw [hpz]; exact wp_sum p z (by cases md <;> simp at f7 <;> omega)
    obtain ⟨g, hg⟩ : ∃ g, U.heap.size = g := ⟨_, rfl⟩
    obtain ⟨U2, hU2⟩ : ∃ U2, U.alloc (.cells #[.int .i64 (D m), .int .i64 (cl : Int), .bool md, .int .i64 (tg : Int), .string (B m)] 39) = U2 := ⟨_, rfl⟩
    have hb2 : Below U.heap.size U U2 := by rw [← hU2]; exact (Below.refl _ _).alloc (Nat.le_refl _) _
    have g2 : U2.heap[U.heap.size]? = some (.cells #[.int .i64 (D m), .int .i64 (cl : Int), .bool md, .int .i64 (tg : Int), .string (B m)] 39 (0, 0)) := by rw [← hU2]; exact World.alloc_heap_new U _
    have x2 : U2.heap[Hx]? = some (.cells #[.int .i64 (cl : Int), .bool md, .int .i64 (tg : Int), .int .i64 (L : Int), .int .i64 (z : Int)] 29 (0, 0)) := (hb2.block _ hxl).trans hx
    have j1 : Boxed U2 w4.heap.size 3 (.int .i64 (m : Int)) := (hb2.block _ i1.lt).trans i1
    have j2 : Boxed U2 (w4.heap.size + 1) 3 (.int .i64 (p : Int)) := (hb2.block _ i2.lt).trans i2
    obtain ⟨U3, hU3⟩ : ∃ U3, U2.setCell ⟨w4.heap.size + 1, 0, none⟩ (.int .i64 (pz : Int)) = U3 := ⟨_, rfl⟩
    have g3 : U3.heap[U.heap.size]? = some (.cells #[.int .i64 (D m), .int .i64 (cl : Int), .bool md, .int .i64 (tg : Int), .string (B m)] 39 (0, 0)) := by rw [← hU3]; exact (Below.heap_setCell _ _ _ _ (by show U.heap.size ≠ w4.heap.size + 1; omega)).trans g2
    have x3 : U3.heap[Hx]? = some (.cells #[.int .i64 (cl : Int), .bool md, .int .i64 (tg : Int), .int .i64 (L : Int), .int .i64 (z : Int)] 29 (0, 0)) := by rw [← hU3]; exact (Below.heap_setCell _ _ _ _ (by show Hx ≠ w4.heap.size + 1; omega)).trans x2
    have k1 : Boxed U3 w4.heap.size 3 (.int .i64 (m : Int)) := by rw [← hU3]; exact (Below.heap_setCell _ _ _ _ (by show w4.heap.size ≠ w4.heap.size + 1; omega)).trans j1
    have k2 : Boxed U3 (w4.heap.size + 1) 3 (.int .i64 (pz : Int)) := by rw [← hU3]; exact j2.set _
    have bU3 : Below w4.heap.size U U3 := by rw [← hU3]; exact (hb2.mono (by omega)).setCell (Nat.le_succ _) _
    have kv3 : KV U U3 := by rw [← hU3]; exact (KV.of_below hb2).trans (kv_set j2)
    have kf3 : KeepsFrom W5.heap.size U U3 := by rw [← hU3, ← hU2]; exact ((KeepsOthers.alloc _ _).trans (KeepsOthers.setCell _ _ _)).from _
    have hfin : Hid (∀ (Y : World), Boxed Y w4.heap.size 3 (.int .i64 (m : Int)) → Boxed Y (w4.heap.size + 1) 3 (.int .i64 (P (m + 1) : Int)) → Below w4.heap.size U Y → KV U Y → KeepsFrom W5.heap.size U Y → postP W5.heap.size KV (PI w w4 W1 (some ⟨b, off, none⟩) n c P) (fun _ _ _ => False) (pre ++ [(p, (⟨cl, md, tg, L, z⟩ : Hd), d)]) U .normal ⟨#[], []⟩ (Y.setCell ⟨w4.heap.size, 0, none⟩ (.int .i64 (mm : Int)))) := fun Y q1 q2 q3 q4 q5 => by
      have hb : Below w4.heap.size U (Y.setCell ⟨w4.heap.size, 0, none⟩ (.int .i64 (mm : Int))) := q3.setCell (Nat.le_refl _) _
      refine ⟨q5.trans ((KeepsOthers.setCell _ _ _).from _), q4.trans (kv_set q1), ?_, ?_, (hb.block _ (by omega)).trans i3, (hb.block _ (by omega)).trans i4, i5.trans (hb.mono (by omega)), Nat.le_trans i6 hb.size⟩
      · rw [List.length_append, hm, show m + [(p, (⟨cl, md, tg, L, z⟩ : Hd), d)].length = mm from hmm.symm]; exact q1.set _
      · rw [List.length_append, hm]; exact (Below.heap_setCell _ _ _ _ (by show w4.heap.size + 1 ≠ w4.heap.size; omega)).trans q2
    have y0 : U2.cell? ⟨Hx, 0, none⟩ = some (.int .i64 (cl : Int)) := by simp [World.cell?, x2]
    have y1 : U2.cell? ⟨Hx, 1, none⟩ = some (.bool md) := by simp [World.cell?, x2]
    have y2 : U2.cell? ⟨Hx, 2, none⟩ = some (.int .i64 (tg : Int)) := by simp [World.cell?, x2]
    have y3 : U2.cell? ⟨Hx, 3, none⟩ = some (.int .i64 (L : Int)) := by simp [World.cell?, x2]
    have y4 : U2.cell? ⟨Hx, 4, none⟩ = some (.int .i64 (z : Int)) := by simp [World.cell?, x2]
    have n1 : U2.cell? ⟨U.heap.size, 1, none⟩ = some (.int .i64 (cl : Int)) := by simp [World.cell?, g2]
    have n2 : U2.cell? ⟨U.heap.size, 2, none⟩ = some (.bool md) := by simp [World.cell?, g2]
    have n3 : U2.cell? ⟨U.heap.size, 3, none⟩ = some (.int .i64 (tg : Int)) := by simp [World.cell?, g2]
    have n4 : U2.cell? ⟨U.heap.size, 4, none⟩ = some (.string (B m)) := by simp [World.cell?, g2]
    have o2 : U3.cell? ⟨U.heap.size, 2, none⟩ = some (.bool md) := by simp [World.cell?, g3]
    have o3 : U3.cell? ⟨Hx, 3, none⟩ = some (.int .i64 (L : Int)) := by simp [World.cell?, x3]
    have e1 := i1.cell
    have e2 := i2.cell
    have e3 := i3.cell
    have j2c := j2.cell
    have j2f := j2.frozen
    have k1c := k1.cell
    have k1f := k1.frozen
    have k2c := k2.cell
    have k2f := k2.frozen
    have wm' := wm.out
    have wp' := wp.out
    cases md with
    | true =>
      have hpost : Hid _ := hfin.out U3 k1 (by rw [f7, if_pos rfl, Nat.add_zero, ← hpz]; exact k2) bU3 kv3 kf3
      clear hfin g2 x2 g3 x3 j1 j2 k1 k2 bU3 kv3 kf3 i1 i2 i3 i4 i5 hPc hxE f1 f2 f3 f4 f5 f6 f7 f8 hb2 hpx hx hI0 hg hmm hpz wm wp hw14a hw14b hX64 hn64
      gi_wp2_with fail
      rw [hs5] at hpost
      first | exact hpost.out | (rw [hs5]; exact hpost.out)
    | false =>
      have hLB := f5 rfl
      have hpost : Hid (∀ (Y : World), Boxed Y w4.heap.size 3 (.int .i64 (m : Int)) → Boxed Y (w4.heap.size + 1) 3 (.int .i64 (P (m + 1) : Int)) → Below w4.heap.size U Y → KV U Y → KeepsFrom W5.heap.size U Y → postP W5.heap.size KV (PI w w4 W1 (some ⟨b, off, none⟩) n c P) (fun _ _ _ => False) (pre ++ [(p, (⟨cl, false, tg, L, z⟩ : Hd), d)]) U .normal ⟨#[], []⟩ (Y.setCell ⟨w4.heap.size, 0, none⟩ (.int .i64 (mm : Int)))) := hfin.out
      obtain ⟨q, hq⟩ : ∃ q, q = pz + L := ⟨_, rfl⟩
      have wq' : Hid (wrap64 ((pz : Int) + (L : Int)) = (q : Int)) := by unfold Hid; rw [hq]; exact wp_sum pz L (hbq.out rfl)
      obtain ⟨U4, hU4⟩ : ∃ U4, U3.setCell ⟨w4.heap.size + 1, 0, none⟩ (.int .i64 (q : Int)) = U4 := ⟨_, rfl⟩
      have l1 : Boxed U4 w4.heap.size 3 (.int .i64 (m : Int)) := by rw [← hU4]; exact (Below.heap_setCell _ _ _ _ (by show w4.heap.size ≠ w4.heap.size + 1; omega)).trans k1
      have l2 : Boxed U4 (w4.heap.size + 1) 3 (.int .i64 (q : Int)) := by rw [← hU4]; exact k2.set _
      have hpost2 : Hid _ := hpost.out U4 l1 (by rw [f7, if_neg (by decide), ← hpz, ← hq]; exact l2) (by rw [← hU4]; exact bU3.setCell (Nat.le_succ _) _) (by rw [← hU4]; exact kv3.trans (kv_set k2)) (by rw [← hU4]; exact kf3.trans ((KeepsOthers.setCell _ _ _).from _))
      have l1c := l1.cell
      have l1f := l1.frozen
      have wq := wq'.out
      rw [hLB] at y3 o3 wq hpost2 ⊢
      clear hfin hpost g2 x2 g3 x3 j1 j2 k1 k2 l1 l2 bU3 kv3 kf3 i1 i2 i3 i4 i5 hPc hxE f1 f2 f3 f4 f5 f6 f7 f8 hb2 hq hLB hbq wq' hpx hx hI0 hg hmm hpz wm wp hw14a hw14b hX64 hn64
      gi_wp2_with fail
      rw [hs5] at hpost2
      first | exact hpost2.out | (rw [hs5]; exact hpost2.out)
  case done =>
    rintro D' V hD hI hK
    have hI' : PI w w4 W1 a n c P (tr X).1 (V.putObj D' (.deferred none)) := pi_low hW14.out.1 hW14.out.2 _ _ _ hI (below_put _ _ (by omega))
    have hPc := HP.out.1
    have hlen : (tr X).1.length = n := by rw [hPc.list, List.length_map, List.length_range]
    obtain ⟨i1, i2, i3, i4, i5, i6⟩ := hI
    rw [hlen] at i1 i2
    rw [hPc.last] at i2
    have e1 := i1.cell
    have e2 := i2.cell
    have e3 := i3.cell
    have e4 := i4.cell
    have e4f := i4.frozen
    have hK2 : (V.setCell ⟨w.heap.size + 1, 0, none⟩ (.bool true)).heap[D']? = some (.deferred (some [])) := (Below.heap_setCell _ _ _ _ (by show D' ≠ w.heap.size + 1; have := hW14.out.2; omega)).trans hK
    have hb : Hid (Below w.heap.size w ((V.setCell ⟨w.heap.size + 1, 0, none⟩ (.bool true)).putObj D' (.deferred none))) := ((HB1.out.trans (i5.mono HB1.out.size)).setCell (Nat.le_succ _) _).trans (below_put _ _ (by have := hW14.out.2; omega))
    have hc : ((V.setCell ⟨w.heap.size + 1, 0, none⟩ (.bool true)).putObj D' (.deferred none)).cell? ⟨w.heap.size + 1, 0, none⟩ = some (.bool true) := by
      have : Boxed ((V.setCell ⟨w.heap.size + 1, 0, none⟩ (.bool true)).putObj D' (.deferred none)) (w.heap.size + 1) 4 (.bool true) := (World.putObj_heap_other (by have := hW14.out.2; omega)).trans (i4.set _)
      exact this.cell
    clear hI' i1 i2 i3 i4 i5 i6 hPc hlen hI0 hK
    gi_wp2_with fail
    refine ⟨by simp, .inl ⟨_, _, rfl, run_takeDeferred hK2, ?_⟩⟩
    exact ⟨.bool true, by simp [results, Try.results4, go_sem, hc], rfl, hb.out⟩
  case stop =>
    rintro D' c' pre V hD hp hX hK
    exact hX.elim
end Go.Proofs.Ytgfonnjblbpogaa
