import Derived.Test.YtdjfjoidmnciiaaSgE
namespace Go.Proofs.Ytdjfjoidmnciiaa
open Go.RowKit Go.Sort Go.Lib
open SgMath (Inc setOf srt less_iff ltT ltI gm Lst Chs above)
set_option linter.unusedVariables false
set_option maxRecDepth 100000

/-- A list of marks of the call's own: three cells each. -/
abbrev K3 := Value × Value × List UInt8
def k3 (x : K3) : List Value := [x.1, x.2.1, .string (S x.2.2)]
def kvs (l : List K3) : List Value := l.flatMap k3
theorem kvs_app (l k : List K3) : kvs (l ++ k) = kvs l ++ kvs k := by simp [kvs]
theorem kvs_len (l : List K3) : (kvs l).length = l.length * 3 := by
  induction l with
  | nil => rfl
  | cons x l ih => show (k3 x ++ kvs l).length = _; rw [List.length_append, ih, List.length_cons]; simp [k3]; omega
theorem kvs_at (l : List K3) (i : Nat) (hi : i < l.length) (j : Nat) (hj : j < 3) : (kvs l)[i * 3 + j]? = (k3 l[i])[j]? := by
  induction l generalizing i with
  | nil => simp at hi
  | cons x l ih =>
    cases i with
    | zero =>
      show (k3 x ++ kvs l)[0 * 3 + j]? = _
      rw [List.getElem?_append_left (by simp [k3]; omega)]
      simp
    | succ i =>
      show (k3 x ++ kvs l)[(i + 1) * 3 + j]? = _
      have e : (i + 1) * 3 + j = (k3 x).length + (i * 3 + j) := by simp [k3]; omega
      rw [e, List.getElem?_append_right (by omega), Nat.add_sub_cancel_left, ih i (by simpa using hi)]
      rfl
/-- Both values are slices. -/
def Sl (l : List K3) : Prop := ∀ x ∈ l, (∃ a n c, x.1 = .slice a n c) ∧ (∃ a n c, x.2.1 = .slice a n c)
theorem kvs_one {l : List K3} (h : Sl l) : ∀ u ∈ kvs l, u.oneCell' = true := by
  intro u hu
  obtain ⟨x, hx, hu⟩ := List.mem_flatMap.1 hu
  obtain ⟨⟨a, n, c, e1⟩, ⟨a', n', c', e2⟩⟩ := h x hx
  simp [k3] at hu
  rcases hu with rfl | rfl | rfl
  · rw [e1]; rfl
  · rw [e2]; rfl
  · rfl
def OwnK (t : TypeId) (W : World) (B : Nat) (v : Value) (l : List K3) : Prop := W.ownsRow B t 3 v l.length (kvs l)
theorem ownK_nil (t : TypeId) (W : World) (B : Nat) : OwnK t W B (.slice none 0 0) [] := ⟨rfl, Or.inl ⟨rfl, rfl⟩⟩
theorem ownK_below {t : TypeId} {w w' : World} {B : Nat} {v : Value} {l : List K3} (h : OwnK t w B v l) (hb : Below w.heap.size w w') : OwnK t w' B v l := by
  rcases h with ⟨h1, ⟨rfl, h2⟩ | ⟨g, cap, cur, rfl, h3, h4, h5⟩⟩
  · exact ⟨h1, Or.inl ⟨rfl, h2⟩⟩
  · exact ⟨h1, Or.inr ⟨g, cap, cur, rfl, h3, by rw [hb.block g (Array.getElem?_eq_some_iff.1 h4).1]; exact h4, h5⟩⟩
theorem info_kn : (Try.prog.info? 27).map (fun i => (i.zero, i.size, i.bytes)) = some (some (.agg #[.slice none 0 0, .slice none 0 0, .string ⟨#[]⟩]), 3, 64) := by kernel_rfl
theorem appendK (w : World) (B : Nat) (v : Value) (l k : List K3) (g : Nat) (hown : OwnK 27 w B v l) (hg : w.heap[g]? = some (.cells (kvs k).toArray 27 (0, 0))) (hk : Sl k) (h0 : 0 < k.length) (hB : B ≤ w.heap.size) (hl : l.length + k.length ≤ 4294967296) :
    ∃ v' w', (Builtin.append_ #[22, 22] 22 #[v, .slice (some ⟨g, 0, none⟩) k.length k.length]).run Try.prog w = .ok v' w' ∧ OwnK 27 w' B v' (l ++ k) ∧ Below B w w' ∧ w.grownBy w' v.ownBlock ∧ ∀ q, v'.ownBlock = some q → v.ownBlock = some q ∨ w.heap.size ≤ q := by
  obtain ⟨i0, hi, hz0, hz1, hz2⟩ := info_parts info_kn
  obtain ⟨g', cap, w', hr, h2, h3, h5, _⟩ := run_append_lies (P := Try.prog) w 22 22 B 27 i0 _ 3 64 Try.underlying22 hi hz0 hz1 hz2 rfl (by decide) v l.length (kvs l) hown ⟨g, 0, none⟩ k.length k.length (kvs k) (kvs_len k) (by simpa using World.news_of_block hg) (kvs_one hk) h0 (by unfold maxLen; omega) (by omega) hB w.heap.size rfl
  refine ⟨_, w', hr, ?_, (Below.refl _ _).grown h3 hB (fun j hj => (World.ownsRow.lt (show w.ownsRow B 27 3 v l.length (kvs l) from hown) _ hj).1), h3, fun q hq => by
    have e : g' = q := by simpa [Value.ownBlock] using hq
    subst e
    exact h5.imp id (fun e => by omega)⟩
  unfold OwnK
  rw [kvs_app, List.length_append]
  exact h2
/-- A kept list's cells. -/
theorem ownK_any {t : TypeId} {w : World} {B : Nat} {v : Value} {l : List K3} (h : OwnK t w B v l) : ∃ a c, v = .slice a l.length c ∧ ∀ i (hi : i < l.length), ∃ b, a = some ⟨b, 0, none⟩ ∧ w.cell? ⟨b, i * 3, none⟩ = some l[i].1 ∧ w.cell? ⟨b, i * 3 + 1, none⟩ = some l[i].2.1 ∧ w.cell? ⟨b, i * 3 + 2, none⟩ = some (.string (S l[i].2.2)) := by
  have h0 := h
  rcases h.2 with ⟨rfl, hn⟩ | ⟨g, cap, cur, rfl, _⟩
  · have hl : l = [] := List.eq_nil_of_length_eq_zero hn
    subst hl
    exact ⟨none, 0, rfl, fun i hi => by simp at hi⟩
  · have key : ∀ i (hi : i < l.length) j, j < 3 → w.cell? ⟨g, i * 3 + j, none⟩ = (k3 l[i])[j]? := fun i hi j hj => by
      have hc := World.ownsRow.cellAt (show w.ownsRow B t 3 _ l.length (kvs l) from h0) (i * 3 + j) (by omega)
      rw [hc]
      exact kvs_at l i hi j hj
    exact ⟨_, _, rfl, fun i hi => ⟨g, rfl, key i hi 0 (by omega), key i hi 1 (by omega), key i hi 2 (by omega)⟩⟩

/-- An entry that is kept. -/
def EN (W : World) (x : K3) : Prop := (∃ n, n ≤ 4194304 ∧ Mks W x.1 x.2.1 x.2.2 n) ∧ (∀ g, x.1.ownBlock = some g → g < W.heap.size) ∧ (∀ g, x.2.1.ownBlock = some g → g < W.heap.size)
theorem EN.below {W W' : World} {x : K3} (h : EN W x) (hb : Below W.heap.size W W') : EN W' x := by
  obtain ⟨⟨n, hn, hM⟩, h1, h2⟩ := h
  exact ⟨⟨n, hn, hM.below hb⟩, fun g e => Nat.lt_of_lt_of_le (h1 g e) hb.size, fun g e => Nat.lt_of_lt_of_le (h2 g e) hb.size⟩
theorem EN.ch {ks : Nat → Prop} {W W' : World} {x : K3} (h : EN W x) (hc : Ch ks W W') (k1 : ∀ g, x.1.ownBlock = some g → ¬ ks g) (k2 : ∀ g, x.2.1.ownBlock = some g → ¬ ks g) : EN W' x := by
  obtain ⟨⟨n, hn, hM⟩, h1, h2⟩ := h
  exact ⟨⟨n, hn, hM.ch hc k1 k2⟩, fun g e => Nat.lt_of_lt_of_le (h1 g e) hc.2.2.2.1, fun g e => Nat.lt_of_lt_of_le (h2 g e) hc.2.2.2.1⟩
theorem Mks.sl {W : World} {v more : Value} {m : List UInt8} {n : Nat} (h : Mks W v more m n) : (∃ a n c, v = .slice a n c) ∧ (∃ a n c, more = .slice a n c) := by
  obtain ⟨⟨a, c, e, _⟩, ⟨a', c', e', _⟩⟩ := h
  exact ⟨⟨a, _, c, e⟩, ⟨a', _, c', e'⟩⟩
theorem Mks.ltMore {W : World} {v more : Value} {m : List UInt8} {n : Nat} (h : Mks W v more m n) : ∀ g, more.ownBlock = some g → g < W.heap.size := by
  obtain ⟨_, ⟨a', c', rfl, r⟩⟩ := h
  intro g hg
  obtain ⟨b, off, e, hc⟩ := r 0 (by rw [List.length_replicate]; omega)
  subst e
  injection hg with hg
  replace hg : b = g := hg
  subst hg
  exact World.block_lt_of_cell? W _ hc
/-- A box laid and filled. -/
theorem st3 (W : World) (t : TypeId) (z0 z1 z2 x y z : Value) : Below W.heap.size W ((((W.alloc (.cells #[z0, z1, z2] t)).setCell ⟨W.heap.size, 0, none⟩ x).setCell ⟨W.heap.size, 1, none⟩ y).setCell ⟨W.heap.size, 2, none⟩ z) ∧ Box ((((W.alloc (.cells #[z0, z1, z2] t)).setCell ⟨W.heap.size, 0, none⟩ x).setCell ⟨W.heap.size, 1, none⟩ y).setCell ⟨W.heap.size, 2, none⟩ z) W.heap.size t #[x, y, z] := by
  refine ⟨?_, ?_⟩
  · refine Below.setCell (Below.setCell (Below.setCell ((Below.refl _ _).alloc (Nat.le_refl _) _) ?_ _) ?_ _) ?_ _ <;> exact Nat.le_refl _
  · exact (((Box.new W t #[z0, z1, z2]).set 0 x).set 1 y).set 2 z
theorem own_two (W : World) (B : Nat) (f g : UInt8) (x y : Int) (hx : x = (f.toNat : Int)) (hy : y = (g.toNat : Int)) : (convert 29 9 (.slice (some ⟨W.heap.size, 0, none⟩) 2 2)).run Try.prog (W.alloc (.cells #[.int .u8 x, .int .u8 y] 5)) = .ok (.string (S [f, g])) (W.alloc (.cells #[.int .u8 x, .int .u8 y] 5)) := by
  subst hx hy
  exact own_back_any _ W.heap.size 29 9 5 _ 2 [f, g] Try.underlying29 Try.underlying5 Try.underlying9 ⟨rfl, Or.inr ⟨W.heap.size, 2, #[.int .u8 (f.toNat : Int), .int .u8 (g.toNat : Int)], rfl, Nat.le_refl _, hp_new W _, Nat.le_refl _, by unfold maxLen; omega, rfl, rfl⟩⟩
theorem mk_c (r : Nat) (h : r < 3) : ∃ c : UInt8, IntKind.u8.wrap ((48 : Int) + (r : Int)) = (c.toNat : Int) ∧ wrap64 ((48 : Int) + (r : Int)) = (48 : Int) + (r : Int) := by
  refine ⟨UInt8.ofNat (48 + r), ?_, by unfold wrap64; omega⟩
  rw [UInt8.toNat_ofNat']
  simp only [IntKind.wrap, IntKind.bits, IntKind.signed]
  simp
theorem ownS_ch {ks : Nat → Prop} {w w' : World} {B : Nat} {v : Value} {l : List (List UInt8)} (h : OwnS w B v l) (hc : Ch ks w w') (hk : ∀ g, v.ownBlock = some g → ¬ ks g) : OwnS w' B v l := by
  rcases h with ⟨h1, ⟨rfl, h2⟩ | ⟨g, cap, cur, rfl, h3, h4, h5⟩⟩
  · exact ⟨h1, Or.inl ⟨rfl, h2⟩⟩
  · exact ⟨h1, Or.inr ⟨g, cap, cur, rfl, h3, by rw [hc.2.2.2.2 g (Array.getElem?_eq_some_iff.1 h4).1 (hk g rfl)]; exact h4, h5⟩⟩
theorem kept_step {wr Wz w9 : World} {kv v' : Value} {ks : List K3} {x1 x2 : K3} (hks : ∀ x ∈ ks, EN wr x ∧ ∀ g, kv.ownBlock = some g → x.1.ownBlock ≠ some g ∧ x.2.1.ownBlock ≠ some g) (hkv : ∀ g, kv.ownBlock = some g → g < wr.heap.size) (hBz : Below wr.heap.size wr Wz) (hgr : Wz.grownBy w9 kv.ownBlock) (hv' : ∀ q, v'.ownBlock = some q → kv.ownBlock = some q ∨ Wz.heap.size ≤ q)
    (h1 : EN Wz x1) (h2 : EN Wz x2) (l1 : ∀ g, (x1.1.ownBlock = some g → wr.heap.size ≤ g) ∧ (x1.2.1.ownBlock = some g → wr.heap.size ≤ g)) (l2 : ∀ g, (x2.1.ownBlock = some g → wr.heap.size ≤ g) ∧ (x2.2.1.ownBlock = some g → wr.heap.size ≤ g)) :
    ∀ x ∈ ks ++ [x1, x2], EN w9 x ∧ ∀ g, v'.ownBlock = some g → x.1.ownBlock ≠ some g ∧ x.2.1.ownBlock ≠ some g := by
  have hc : Ch (fun k => kv.ownBlock = some k) Wz w9 := Ch.of_grown hgr (fun r hr => hr)
  have key : ∀ x : K3, EN Wz x → (∀ g, kv.ownBlock = some g → x.1.ownBlock ≠ some g ∧ x.2.1.ownBlock ≠ some g) → EN w9 x ∧ ∀ g, v'.ownBlock = some g → x.1.ownBlock ≠ some g ∧ x.2.1.ownBlock ≠ some g := fun x hx ha => by
    refine ⟨hx.ch hc (fun g e q => (ha g q).1 e) (fun g e q => (ha g q).2 e), fun g hg => ?_⟩
    rcases hv' g hg with q | q
    · exact ha g q
    · exact ⟨fun e => by have := hx.2.1 g e; omega, fun e => by have := hx.2.2 g e; omega⟩
  intro x hx
  rcases List.mem_append.1 hx with hx | hx
  · exact key x ((hks x hx).1.below hBz) (hks x hx).2
  · simp at hx
    rcases hx with rfl | rfl
    · exact key _ h1 (fun g hg => ⟨fun e => by have := (l1 g).1 e; have := hkv g hg; omega, fun e => by have := (l1 g).2 e; have := hkv g hg; omega⟩)
    · exact key _ h2 (fun g hg => ⟨fun e => by have := (l2 g).1 e; have := hkv g hg; omega, fun e => by have := (l2 g).2 e; have := hkv g hg; omega⟩)
theorem gl_le (s : ByteArray) (h : s.size ≤ 1048576) : (setOf (gm s.data.toList (s.size - 2))).length ≤ 1048576 := by
  have := SgMath.setOf_len (gm s.data.toList (s.size - 2))
  rw [SgMath.gm_len] at this
  omega

set_option maxHeartbeats 4000000 in
theorem indexGrams_walk (s t : ByteArray) (w : World) (hsz : s.size ≤ 1048576 ∧ t.size ≤ 1048576) :
    Calls Try.prog 3 #[.string s, .string t] w fun e w' => e = .returned (.bool true) ∧ Below w.heap.size w w' := by
  have hsz' : Hid (s.size ≤ 1048576 ∧ t.size ≤ 1048576) := hsz
  clear hsz
  obtain ⟨A, hA⟩ : ∃ A, setOf (gm s.data.toList (s.size - 2)) = A := ⟨_, rfl⟩
  obtain ⟨Z, hZ⟩ : ∃ Z, setOf (gm t.data.toList (t.size - 2)) = Z := ⟨_, rfl⟩
  have hAl : Hid (A.length ≤ 1048576 ∧ Z.length ≤ 1048576) := by
    unfold Hid
    rw [← hA, ← hZ]
    exact ⟨gl_le s hsz'.out.1, gl_le t hsz'.out.2⟩
  have HS : ∀ W, Hid (Calls Try.prog 4 #[.string s] W fun e w' => ∃ v, e = .returned v ∧ OwnS w' W.heap.size v A ∧ Below W.heap.size W w') := fun W => by have h := grams_any s W hsz'.out.1; rw [hA] at h; exact h
  have HT : ∀ W, Hid (Calls Try.prog 4 #[.string t] W fun e w' => ∃ v, e = .returned v ∧ OwnS w' W.heap.size v Z ∧ Below W.heap.size W w') := fun W => by have h := grams_any t W hsz'.out.2; rw [hZ] at h; exact h
  have RS : ∀ W, Hid (Calls Try.prog 6 #[.string s] W fun e w' => ∃ v, e = .returned v ∧ OwnS w' W.heap.size v A ∧ Below W.heap.size W w') := fun W => by have h := rgrams_any s W hsz'.out.1; rw [hA] at h; exact h
  have RT : ∀ W, Hid (Calls Try.prog 6 #[.string t] W fun e w' => ∃ v, e = .returned v ∧ OwnS w' W.heap.size v Z ∧ Below W.heap.size W w') := fun W => by have h := rgrams_any t W hsz'.out.2; rw [hZ] at h; exact h
  clear hA hZ
  go_enter Try.func3, Try.ntmps3
  go_wp2_with fail
  go_loopw [5, 6] (fun kv iv wr => ∃ (r : Nat) (ks : List K3), r ≤ 3 ∧ iv = .int .i64 (r : Int) ∧ Hid (ks.length = 2 * r) ∧ Hid (OwnK 27 wr w.heap.size kv ks) ∧ Hid (∀ x ∈ ks, EN wr x ∧ ∀ g, kv.ownBlock = some g → x.1.ownBlock ≠ some g ∧ x.2.1.ownBlock ≠ some g) ∧ Below w.heap.size w wr) (fun _ iv _ => 3 - (intOf iv).toNat)
  case atStart => exact ⟨0, [], by omega, rfl, rfl, ownK_nil _ _ _, fun x hx => by simp at hx, Below.refl _ _⟩
  case round =>
    obtain ⟨r, ks, hr3, rfl, hkl, hown, hks, HB⟩ := hrel
    have hBs : w.heap.size ≤ wr.heap.size := HB.size
    obtain ⟨ka, kc, rfl, hkcell⟩ := ownK_any hown.out
    by_cases hlt : r < 3
    · obtain ⟨c, hc1, hc2⟩ := mk_c r hlt
      have r1 : (r : Int) < 3 := by omega
      have hlt' : Hid (r < 3) := hlt
      clear hkcell hlt
      go_wp2_with fail
      refine (HS wr).out.mono ?_
      rintro e w1 ⟨av, rfl, hav, hb1⟩
      obtain ⟨aa, ac, rfl⟩ := ownS_slice hav
      go_wp2_with fail
      refine (HT w1).out.mono ?_
      rintro e w2 ⟨bv, rfl, hbv, hb2⟩
      obtain ⟨ba, bc, rfl⟩ := ownS_slice hbv
      go_wp2_with fail
      refine (RS w2).out.mono ?_
      rintro e w3 ⟨xv, rfl, hxv, hb3⟩
      obtain ⟨xa, xc, rfl⟩ := ownS_slice hxv
      have hS1 := sameT_any A aa xa ac xc w3 (by have := hAl.out.1; omega) ((((ownS_row hav).1).below hb2).below hb3) (ownS_row hxv).1
      go_wp2_with fail
      refine hS1.mono ?_
      rintro e w4 ⟨rfl, hb4⟩
      clear hS1 hxv
      go_wp2_with fail
      refine (RT w4).out.mono ?_
      rintro e w5 ⟨yv, rfl, hyv, hb5⟩
      obtain ⟨ya, yc, rfl⟩ := ownS_slice hyv
      have hS2 := sameT_any Z ba ya bc yc w5 (by have := hAl.out.2; omega) (((((ownS_row hbv).1).below hb3).below hb4).below hb5) (ownS_row hyv).1
      go_wp2_with fail
      refine hS2.mono ?_
      rintro e w6 ⟨rfl, hb6⟩
      clear hS2 hyv
      have hcv1 : ∀ W : World, (convert 29 9 (.slice (some ⟨W.heap.size, 0, none⟩) 2 2)).run Try.prog (W.alloc (.cells #[.int .u8 97, .int .u8 (c.toNat : Int)] 5)) = .ok (.string (S [97, c])) (W.alloc (.cells #[.int .u8 97, .int .u8 (c.toNat : Int)] 5)) := fun W => own_two W 0 97 c _ _ rfl rfl
      have hcv2 : ∀ W : World, (convert 29 9 (.slice (some ⟨W.heap.size, 0, none⟩) 2 2)).run Try.prog (W.alloc (.cells #[.int .u8 98, .int .u8 (c.toNat : Int)] 5)) = .ok (.string (S [98, c])) (W.alloc (.cells #[.int .u8 98, .int .u8 (c.toNat : Int)] 5)) := fun W => own_two W 0 98 c _ _ rfl rfl
      obtain ⟨M1, hM1⟩ : ∃ M1, S [97, c] = M1 := ⟨_, rfl⟩
      obtain ⟨M2, hM2⟩ : ∃ M2, S [98, c] = M2 := ⟨_, rfl⟩
      simp only [hM1] at hcv1
      simp only [hM2] at hcv2
      have hb26 : Below w2.heap.size w2 w6 := ((hb3.trans (hb4.mono hb3.size)).trans (hb5.mono (hb3.trans (hb4.mono hb3.size)).size)).trans (hb6.mono ((hb3.trans (hb4.mono hb3.size)).trans (hb5.mono (hb3.trans (hb4.mono hb3.size)).size)).size)
      have ha6 : OwnS w6 wr.heap.size (.slice aa A.length ac) A := ownS_below (ownS_below hav hb2) hb26
      have hz6 : OwnS w6 w1.heap.size (.slice ba Z.length bc) Z := ownS_below hbv hb26
      have hord : Hid (wr.heap.size ≤ w1.heap.size ∧ w1.heap.size ≤ w2.heap.size ∧ w2.heap.size ≤ w6.heap.size) := ⟨hb1.size, hb2.size, hb26.size⟩
      have hB6 : Hid (Below wr.heap.size wr w6) := (hb1.trans (hb2.mono hb1.size)).trans (hb26.mono (hb1.trans (hb2.mono hb1.size)).size)
      have hra : Hid (∀ g, (Value.slice aa A.length ac).ownBlock = some g → wr.heap.size ≤ g ∧ g < w1.heap.size) := fun g hg => ownS_lt hav hg
      have hrz : Hid (∀ g, (Value.slice ba Z.length bc).ownBlock = some g → w1.heap.size ≤ g ∧ g < w2.heap.size) := fun g hg => ownS_lt hbv hg
      have HMa : Hid (∀ W, Below w6.heap.size w6 W → Calls Try.prog 7 #[.slice aa A.length ac, .string M1] W fun r w' => ∃ more, r = .returned (.agg #[.slice aa A.length ac, more, .string M1]) ∧ Mks w' (.slice aa A.length ac) more [97, c] A.length ∧ Ch (fun k => (Value.slice aa A.length ac).ownBlock = some k) W w' ∧ ∀ g, more.ownBlock = some g → (Value.slice aa A.length ac).ownBlock = some g ∨ W.heap.size ≤ g) := fun W hb => markTexts_any wr.heap.size _ A M1 [97, c] hM1.symm W (ownS_below ha6 hb) (by have := hord.out; have := hb.size; omega) (by have := hAl.out.1; omega)
      clear hb1 hb2 hb3 hb4 hb5 hb6 hav hbv hb26 ha6 RS RT HS HT
      go_wp2_with fail
      refine (HMa.out _ ((Below.refl _ _).alloc (Nat.le_refl _) _)).mono ?_
      rintro e w7 ⟨m1, rfl, hK1, hCh1, hmo1⟩
      obtain ⟨⟨_, _, _, _⟩, ⟨ma1, mn1, mc1, rfl⟩⟩ := hK1.sl
      have hn7 : w6.heap.size + 1 ≤ w7.heap.size := by have := hCh1.2.2.2.1; simp at this; omega
      have hB67 : Below wr.heap.size w6 w7 := ((Below.refl _ _).alloc (by have := hord.out; omega) _).trans (hCh1.below (by have := hord.out; simp; omega) (fun k hk => (hra.out k hk).1))
      have hB7 : Hid (Below wr.heap.size wr w7) := hB6.out.trans hB67
      have hz7 : OwnS w7 w1.heap.size (.slice ba Z.length bc) Z := ownS_ch (World.ownsRow.alloc hz6 _) hCh1 (fun g hg q => by have := hrz.out g hg; have := hra.out g q; omega)
      have hm1 : Hid (∀ g, (Value.slice ma1 mn1 mc1).ownBlock = some g → (Value.slice aa A.length ac).ownBlock = some g ∨ w6.heap.size + 1 ≤ g) := fun g hg => (hmo1 g hg).imp id (fun h => by simpa using h)
      have hY1B : Hid (Below w7.heap.size w7 (w7.alloc (.cells #[.slice aa A.length ac, .slice ma1 mn1 mc1, .string M1] 27)) ∧ Box (w7.alloc (.cells #[.slice aa A.length ac, .slice ma1 mn1 mc1, .string M1] 27)) w7.heap.size 27 #[.slice aa A.length ac, .slice ma1 mn1 mc1, .string M1]) := ⟨(Below.refl _ _).alloc (Nat.le_refl _) _, Box.new _ _ _⟩
      have hcv3 := hcv2 (w7.alloc (.cells #[.slice aa A.length ac, .slice ma1 mn1 mc1, .string M1] 27))
      rw [World.size_alloc] at hcv3
      have HMb : Hid (∀ W, Below w7.heap.size w7 W → Calls Try.prog 7 #[.slice ba Z.length bc, .string M2] W fun r w' => ∃ more, r = .returned (.agg #[.slice ba Z.length bc, more, .string M2]) ∧ Mks w' (.slice ba Z.length bc) more [98, c] Z.length ∧ Ch (fun k => (Value.slice ba Z.length bc).ownBlock = some k) W w' ∧ ∀ g, more.ownBlock = some g → (Value.slice ba Z.length bc).ownBlock = some g ∨ W.heap.size ≤ g) := fun W hb => markTexts_any w1.heap.size _ Z M2 [98, c] hM2.symm W (ownS_below hz7 hb) (by have := hord.out; have := hb.size; omega) (by have := hAl.out.2; omega)
      have hK1' : Hid (Mks w7 (.slice aa A.length ac) (.slice ma1 mn1 mc1) [97, c] A.length) := hK1
      have hn7' : Hid (w6.heap.size + 1 ≤ w7.heap.size) := hn7
      clear hcv1 hcv2 hK1 hCh1 hmo1 hn7 hB67 hz7 hz6 HMa
      go_wp2_with fail
      refine (HMb.out _ (hY1B.out.1.alloc hY1B.out.1.size _)).mono ?_
      rintro e w8 ⟨m2, rfl, hK2, hCh2, hmo2⟩
      obtain ⟨⟨_, _, _, _⟩, ⟨ma2, mn2, mc2, rfl⟩⟩ := hK2.sl
      obtain ⟨WA, hWA⟩ : ∃ WA, (w7.alloc (.cells #[.slice aa A.length ac, .slice ma1 mn1 mc1, .string M1] 27)).alloc (.cells #[.int .u8 98, .int .u8 (c.toNat : Int)] 5) = WA := ⟨_, rfl⟩
      have hBA : Below w7.heap.size w7 WA := by rw [← hWA]; exact hY1B.out.1.alloc hY1B.out.1.size _
      have hXA : Box WA w7.heap.size 27 #[.slice aa A.length ac, .slice ma1 mn1 mc1, .string M1] := by rw [← hWA]; exact hY1B.out.2.past _
      rw [hWA] at hCh2 hmo2
      have hnA : w7.heap.size ≤ WA.heap.size := hBA.size
      have hn8 : WA.heap.size ≤ w8.heap.size := hCh2.2.2.2.1
      have hB8 : Below wr.heap.size wr w8 := (hB7.out.trans (hBA.mono (by have := hord.out; have := hn7'.out; omega))).trans (hCh2.below (by have := hord.out; have := hn7'.out; omega) (fun k hk => by have := hrz.out k hk; have := hord.out; omega))
      have hX8 : Box w8 w7.heap.size 27 #[.slice aa A.length ac, .slice ma1 mn1 mc1, .string M1] := hXA.of (hCh2.2.2.2.2 _ hXA.lt (fun q => by have := hrz.out _ q; have := hord.out; have := hn7'.out; omega))
      have hE1 : EN w8 (.slice aa A.length ac, .slice ma1 mn1 mc1, [97, c]) := by
        have h7 : EN w7 (.slice aa A.length ac, .slice ma1 mn1 mc1, [97, c]) := ⟨⟨A.length, by have := hAl.out.1; omega, hK1'.out⟩, fun g hg => by have := hra.out g hg; have := hord.out; have := hn7'.out; omega, hK1'.out.ltMore⟩
        refine (h7.below hBA).ch hCh2 (fun g hg q => ?_) (fun g hg q => ?_)
        · have := hra.out g hg; have := hrz.out g q; omega
        · have hq := hrz.out g q
          have := hord.out
          rcases hm1.out g hg with h | h
          · have := hra.out g h; omega
          · omega
      have hE2 : EN w8 (.slice ba Z.length bc, .slice ma2 mn2 mc2, [98, c]) := ⟨⟨Z.length, by have := hAl.out.2; omega, hK2⟩, fun g hg => by have := hrz.out g hg; have := hord.out; have := hn7'.out; omega, hK2.ltMore⟩
      have hl1 : ∀ g, ((Value.slice aa A.length ac).ownBlock = some g → wr.heap.size ≤ g) ∧ ((Value.slice ma1 mn1 mc1).ownBlock = some g → wr.heap.size ≤ g) := fun g => ⟨fun e => (hra.out g e).1, fun e => by
        rcases hm1.out g e with h | h
        · exact (hra.out g h).1
        · have := hord.out; omega⟩
      have hl2 : ∀ g, ((Value.slice ba Z.length bc).ownBlock = some g → wr.heap.size ≤ g) ∧ ((Value.slice ma2 mn2 mc2).ownBlock = some g → wr.heap.size ≤ g) := fun g => ⟨fun e => by have := hrz.out g e; have := hord.out; omega, fun e => by
        rcases hmo2 g e with h | h
        · have := hrz.out g h; have := hord.out; omega
        · have := hord.out; have := hn7'.out; omega⟩
      have hb82 : Below w8.heap.size w8 (w8.alloc (.cells #[.slice ba Z.length bc, .slice ma2 mn2 mc2, .string M2] 27)) := (Below.refl _ _).alloc (Nat.le_refl _) _
      have hb83 : Below w8.heap.size w8 ((w8.alloc (.cells #[.slice ba Z.length bc, .slice ma2 mn2 mc2, .string M2] 27)).alloc (.cells #[.slice aa A.length ac, .slice ma1 mn1 mc1, .string M1, .slice ba Z.length bc, .slice ma2 mn2 mc2, .string M2] 27)) := hb82.alloc hb82.size _
      have hX9 : Box (w8.alloc (.cells #[.slice ba Z.length bc, .slice ma2 mn2 mc2, .string M2] 27)) w7.heap.size 27 #[.slice aa A.length ac, .slice ma1 mn1 mc1, .string M1] := hX8.past _
      have hX10 : Box (w8.alloc (.cells #[.slice ba Z.length bc, .slice ma2 mn2 mc2, .string M2] 27)) w8.heap.size 27 #[.slice ba Z.length bc, .slice ma2 mn2 mc2, .string M2] := Box.new _ _ _
      have y0 := (at_of hX9 (j := 0) (v := .slice aa A.length ac) rfl).1
      have y1 := (at_of hX9 (j := 1) (v := .slice ma1 mn1 mc1) rfl).1
      have y2 := (at_of hX9 (j := 2) (v := .string M1) rfl).1
      have z0 := (at_of hX10 (j := 0) (v := .slice ba Z.length bc) rfl).1
      have z1 := (at_of hX10 (j := 1) (v := .slice ma2 mn2 mc2) rfl).1
      have z2 := (at_of hX10 (j := 2) (v := .string M2) rfl).1
      have hBz : Below wr.heap.size wr ((w8.alloc (.cells #[.slice ba Z.length bc, .slice ma2 mn2 mc2, .string M2] 27)).alloc (.cells #[.slice aa A.length ac, .slice ma1 mn1 mc1, .string M1, .slice ba Z.length bc, .slice ma2 mn2 mc2, .string M2] 27)) := hB8.trans (hb83.mono hB8.size)
      have hg3 : ((w8.alloc (.cells #[.slice ba Z.length bc, .slice ma2 mn2 mc2, .string M2] 27)).alloc (.cells #[.slice aa A.length ac, .slice ma1 mn1 mc1, .string M1, .slice ba Z.length bc, .slice ma2 mn2 mc2, .string M2] 27)).heap[(w8.alloc (.cells #[.slice ba Z.length bc, .slice ma2 mn2 mc2, .string M2] 27)).heap.size]? = some (.cells (kvs [(.slice aa A.length ac, .slice ma1 mn1 mc1, [97, c]), (.slice ba Z.length bc, .slice ma2 mn2 mc2, [98, c])]).toArray 27 (0, 0)) := by
        rw [hp_new, ← hM1, ← hM2]
        rfl
      obtain ⟨v9, w9, hr9, hO9, hBk9, hgr9, hv9⟩ := appendK ((w8.alloc (.cells #[.slice ba Z.length bc, .slice ma2 mn2 mc2, .string M2] 27)).alloc (.cells #[.slice aa A.length ac, .slice ma1 mn1 mc1, .string M1, .slice ba Z.length bc, .slice ma2 mn2 mc2, .string M2] 27)) w.heap.size (.slice ka ks.length kc) ks _ (w8.alloc (.cells #[.slice ba Z.length bc, .slice ma2 mn2 mc2, .string M2] 27)).heap.size (ownK_below hown.out hBz) hg3 (by
        intro x hx
        simp at hx
        rcases hx with rfl | rfl
        · exact ⟨⟨_, _, _, rfl⟩, ⟨_, _, _, rfl⟩⟩
        · exact ⟨⟨_, _, _, rfl⟩, ⟨_, _, _, rfl⟩⟩) (by simp) (by have := hBz.size; omega) (by have := hkl.out; have := hlt'.out; simp; omega)
      rw [World.size_alloc] at hr9
      have hkv : ∀ g, (Value.slice ka ks.length kc).ownBlock = some g → g < wr.heap.size := fun g hg => (World.ownsRow.lt (show wr.ownsRow w.heap.size 27 3 _ ks.length (kvs ks) from hown.out) g hg).2
      have hfin : Hid ((∀ x ∈ ks ++ [((.slice aa A.length ac, .slice ma1 mn1 mc1, [97, c]) : K3), (.slice ba Z.length bc, .slice ma2 mn2 mc2, [98, c])], EN w9 x ∧ ∀ g, v9.ownBlock = some g → x.1.ownBlock ≠ some g ∧ x.2.1.ownBlock ≠ some g) ∧ OwnK 27 w9 w.heap.size v9 (ks ++ [(.slice aa A.length ac, .slice ma1 mn1 mc1, [97, c]), (.slice ba Z.length bc, .slice ma2 mn2 mc2, [98, c])]) ∧ Below w.heap.size w w9 ∧ (ks ++ [((.slice aa A.length ac, .slice ma1 mn1 mc1, [97, c]) : K3), (.slice ba Z.length bc, .slice ma2 mn2 mc2, [98, c])]).length = 2 * (r + 1)) :=
        ⟨kept_step hks.out hkv hBz hgr9 hv9 (hE1.below hb83) (hE2.below hb83) hl1 hl2, hO9, (HB.trans (hBz.mono hBs)).trans hBk9, by rw [List.length_append, hkl.out]; rfl⟩
      clear hWA hBA hXA hCh2 hmo2 hnA hn8 hB8 hX8 hE1 hE2 hl1 hl2 hb82 hb83 hX9 hX10 hBz hg3 hO9 hBk9 hgr9 hv9 hkv hK2 hcv3 hra hrz hm1 hord hB7 hY1B HMb hK1' hn7' hB6 hown hks HB hBs hM1 hM2
      go_wp2_with (at_builtin; refine Lib.wpList_append_run _ rfl _ _ _ _ rfl _ _ rfl rfl _ _ hr9 ?_; clear hr9)
      refine ⟨⟨r + 1, _, hlt'.out, by simp, hfin.out.2.2.2, hfin.out.2.1, hfin.out.1, hfin.out.2.2.1⟩, ?_⟩
      have := hlt'.out
      simp [intOf]
      omega
    · have hkl6 : Hid (ks.length = 6) := by unfold Hid; have := hkl.out; omega
      have r3 : ¬ (r : Int) < 3 := by omega
      clear hlt hr3 HS HT RS RT hkl
      have hkc : Hid (∀ i (hi : i < ks.length), ∃ b, ka = some ⟨b, 0, none⟩ ∧ wr.cell? ⟨b, i * 3, none⟩ = some ks[i].1 ∧ wr.cell? ⟨b, i * 3 + 1, none⟩ = some ks[i].2.1 ∧ wr.cell? ⟨b, i * 3 + 2, none⟩ = some (.string (S ks[i].2.2))) := hkcell
      obtain ⟨wo, hwo⟩ : ∃ wo, wo = wr := ⟨_, rfl⟩
      clear hkcell hown
      go_wp2_with fail
      go_loopw [11] (fun iv w' => ∃ i : Nat, i ≤ ks.length ∧ iv = .int .i64 (i : Int) ∧ Below wo.heap.size wo w') (fun iv _ => ks.length - (intOf iv).toNat)
      case atStart => exact ⟨0, Nat.zero_le _, rfl, by rw [hwo]; exact Below.refl _ _⟩
      case round =>
        obtain ⟨i, hi, rfl, HBi⟩ := hrel
        rw [← hwo] at hkc hks HB
        have h6 := hkl6.out
        by_cases h1 : i < ks.length
        · obtain ⟨kb, rfl, c0, c1, c2⟩ := hkc.out i h1
          have hkb : kb < wo.heap.size := World.block_lt_of_cell? wo _ c0
          rw [← HBi.cell (p := ⟨kb, i * 3, none⟩) hkb] at c0
          rw [← HBi.cell (p := ⟨kb, i * 3 + 1, none⟩) hkb] at c1
          rw [← HBi.cell (p := ⟨kb, i * 3 + 2, none⟩) hkb] at c2
          obtain ⟨n, hn, hM⟩ := (hks.out ks[i] (List.getElem_mem h1)).1.1
          obtain ⟨x, hx⟩ : ∃ x, ks[i] = x := ⟨_, rfl⟩
          rw [hx] at c0 c1 c2 hM
          obtain ⟨x1, x2, x3⟩ := x
          obtain ⟨X, hX⟩ : ∃ X, S x3 = X := ⟨_, rfl⟩
          simp only at c0 c1 c2 hM
          rw [hX] at c2
          obtain ⟨⟨xa, xn, xc, rfl⟩, ⟨ya, yn, yc, rfl⟩⟩ := hM.sl
          have HW : Hid (Calls Try.prog 8 #[.agg #[.slice xa xn xc, .slice ya yn yc, .string X]] wr fun r w' => r = .returned (.bool true) ∧ Below wr.heap.size wr w') := whole_any _ _ X x3 n wr (hM.below HBi) hX.symm hn
          have i0 : (0 : Int) ≤ (i : Int) := Int.natCast_nonneg _
          have i1 : (i : Int) < (ks.length : Int) := Int.ofNat_lt.2 h1
          have hg : Hid (i + 1 ≤ ks.length ∧ i < 6) := by unfold Hid; omega
          have i6 : (i : Int) < 6 := by omega
          clear hx hX hM hn hkc hks hkb hwo h6
          go_wp2_with fail
          refine HW.out.mono ?_
          rintro e w5 ⟨rfl, hb5⟩
          go_wp2_with fail
          refine ⟨⟨i + 1, hg.out.1, by simp, HBi.trans (hb5.mono HBi.size)⟩, ?_⟩
          have := hg.out.1
          simp [intOf]
          omega
        · have hie : i = ks.length := by omega
          subst hie
          clear hkc hks hwo h6
          go_wp2_with fail
          go_ret
          exact ⟨rfl, HB.trans (HBi.mono HB.size)⟩
end Go.Proofs.Ytdjfjoidmnciiaa
