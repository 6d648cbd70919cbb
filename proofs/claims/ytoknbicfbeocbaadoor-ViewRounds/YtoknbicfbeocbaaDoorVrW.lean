import Derived.Test.YtoknbicfbeocbaaDoorVX5
namespace Go.Proofs.YtoknbicfbeocbaaDoor
namespace Vr
open Go.RowKit
set_option linter.unusedVariables false

/-- What stands while the keys are gathered. -/
def GkI (w : World) (v : Value) (l : List Ky) (W : World) : Prop := GOwn 25 3 kyV W w.heap.size v l ∧ Below w.heap.size w W
theorem gk_more {w W : World} {v : Value} {l : List Ky} (h : GkI w v l W) (k : Ky) (hl : l.length ≤ 1000) :
    ∃ a' n' c' w', (Builtin.append_ #[22, 22] 22 #[v, .slice (some ⟨W.heap.size, 0, none⟩) 1 1]).run Tryd.prog (W.alloc (.cells #[.string k.1, .string k.2.1, .bool k.2.2] 25)) = .ok (.slice a' n' c') w' ∧ GkI w (.slice a' n' c') (l ++ [k]) w' := by
  have hb : Below W.heap.size W (W.alloc (.cells #[.string k.1, .string k.2.1, .bool k.2.2] 25)) := (Below.refl _ _).alloc (Nat.le_refl _) _
  obtain ⟨v', w', e1, o1, _, b1⟩ := append_gen KDk (W.alloc (.cells #[.string k.1, .string k.2.1, .bool k.2.2] 25)) w.heap.size v l [k] _ 1 1 (h.1.below hb) (g_new kyV kyV_len W 25 [k]) rfl (Nat.le_trans h.2.size hb.size) (by simp; omega)
  obtain ⟨a', c', hv, _⟩ := o1.row kyV_len
  subst hv
  exact ⟨a', _, c', w', e1, o1, (h.2.trans (hb.mono h.2.size)).trans b1⟩
theorem GkI.past {w W W' : World} {v : Value} {l : List Ky} (h : GkI w v l W) (hb : Below W.heap.size W W') : GkI w v l W' := ⟨h.1.below hb, h.2.trans (hb.mono h.2.size)⟩
theorem sh_keys (ks : List Ky) : ∀ k ∈ ks.map shK, k.1.size ≤ 65536 ∧ k.2.1.size ≤ 65536 := by
  intro k hk
  obtain ⟨x, _, rfl⟩ := List.mem_map.1 hk
  exact ⟨sh_size _, sh_size _⟩
theorem allU_take (l : List Ky) (i : Nat) (hi : i < l.length) : allU (l.take (i + 1)) = (allU (l.take i) && (utf l[i].1 && utf l[i].2.1)) := by
  unfold allU
  rw [List.take_succ_eq_append_getElem hi, List.all_append]
  simp
set_option maxRecDepth 100000 in
set_option maxHeartbeats 8000000 in
theorem viewRounds_walk (gs : List Ky) (ga : Option Addr) (gc : Nat) (size more : Int) (ck : ByteArray) (w : World) (hg : GRow 3 kyV w ga gs) (hgn : gs.length ≤ 9223372036854775807) (ht : RowTab w) :
    Calls Tryd.prog 3 #[.slice ga gs.length gc, .int .i64 size, .string ck, .int .i64 more] w fun e w' => e = .returned (.bool true) ∧ Below w.heap.size w w' := by
  have hSh : Hid (∀ (s : ByteArray) W, Calls Tryd.prog 4 #[.string s] W fun e w' => e = .returned (.string (sh s)) ∧ w' = W) := fun s W => short_any s W
  have hCk : Hid (∀ (s : ByteArray) W, s.size ≤ 65536 → Below w.heap.size w W → Calls Tryd.prog 5 #[.string s] W fun e w' => (∃ c p : Int, e = .returned (.tuple #[.int .i64 c, .int .i64 p]) ∧ utf s = (c == 0)) ∧ W = w') := fun s W hs hb => rcheck_utf s W hs (tab_below ht hb)
  have HG : Hid (GRow 3 kyV w ga gs) := hg
  have i2 : (gs.length : Int) ≤ 9223372036854775807 := by omega
  clear ht hg hgn
  go_enter Tryd.func3, Tryd.ntmps3
  go_wp2_with fail
  go_loopw [9, 10] (fun lv iv wr => ∃ (i : Nat) (za : Option Addr) (zn zc : Nat), i ≤ gs.length ∧ i ≤ 1000 ∧ iv = .int .i64 (i : Int) ∧ lv = .slice za zn zc ∧ Hid (GkI w (.slice za zn zc) ((gs.take i).map shK) wr)) (fun _ iv _ => 1000 - (intOf iv).toNat)
  case atStart => exact ⟨0, none, 0, 0, Nat.zero_le _, Nat.zero_le _, rfl, rfl, GOwn.nil _ _ _ _ _, Below.refl _ _⟩
  case round =>
    obtain ⟨i, za, zn, zc, hi, hi2, rfl, rfl, hI⟩ := hrel
    have i0 : (0 : Int) ≤ (i : Int) := Int.natCast_nonneg _
    by_cases hlt : i < gs.length ∧ i < 1000
    · obtain ⟨hl1, hl2⟩ := hlt
      have i1 : (i : Int) < (gs.length : Int) := Int.ofNat_lt.2 hl1
      have i3 : (i : Int) < 1000 := by omega
      obtain ⟨b, off, rfl, x0, x1, x2⟩ := key_at HG.out i hl1
      have htk : (gs.take (i + 1)).map shK = (gs.take i).map shK ++ [shK gs[i]] := by
        rw [List.take_succ_eq_append_getElem hl1, List.map_append]
        rfl
      obtain ⟨⟨d, r, v⟩, hx⟩ : ∃ k, gs[i] = k := ⟨_, rfl⟩
      rw [hx] at x0 x1 x2 htk
      have F : Hid (i < gs.length ∧ i < 1000 ∧ (gs.take (i + 1)).map shK = (gs.take i).map shK ++ [(sh d, sh r, v)]) := ⟨hl1, hl2, htk⟩
      have hbl : b < w.heap.size := World.block_lt_of_cell? w _ x0
      have hK : Hid (∀ W, Below w.heap.size w W → W.cell? ⟨b, off + i * 3, none⟩ = some (.string d) ∧ W.cell? ⟨b, off + i * 3 + 1, none⟩ = some (.string r) ∧ W.cell? ⟨b, off + i * 3 + 2, none⟩ = some (.bool v)) := fun W hb =>
        ⟨(hb.cell hbl).trans x0, (hb.cell hbl).trans x1, (hb.cell hbl).trans x2⟩
      have hS1 : Hid (∀ W, Calls Tryd.prog 4 #[.string d] W fun e w' => e = .returned (.string (sh d)) ∧ w' = W) := fun W => hSh.out d W
      have hS2 : Hid (∀ W, Calls Tryd.prog 4 #[.string r] W fun e w' => e = .returned (.string (sh r)) ∧ w' = W) := fun W => hSh.out r W
      have bN : Below wr.heap.size wr wr := Below.refl _ _
      obtain ⟨ya, yn, yc, w9, e9, h9⟩ := gk_more (hI.out.past bN.drew) (sh d, sh r, v) (by rw [List.length_map, List.length_take]; omega)
      have e9' : Hid ((Builtin.append_ #[22, 22] 22 #[.slice za zn zc, .slice (some ⟨wr.drew.heap.size, 0, none⟩) 1 1]).run Tryd.prog (wr.drew.alloc (.cells #[.string (sh d), .string (sh r), .bool v] 25)) = .ok (.slice ya yn yc) w9) := e9
      have H9 : Hid (GkI w (.slice ya yn yc) ((gs.take (i + 1)).map shK) w9) := by unfold Hid; rw [F.out.2.2]; exact h9
      have B0 : Below w.heap.size w wr.drew := hI.out.2.trans (bN.drew.mono hI.out.2.size)
      have c0 := hK.out _ B0
      have cE := hK.out _ (B0.alloc B0.size (.cells #[.string (sh d), .string (sh r), .bool v] 25))
      have cG := hK.out _ H9.out.2
      obtain ⟨x0, x1, x2⟩ := hK.out _ hI.out.2
      clear htk hx e9 h9 hl1 hl2 hi hi2 hbl
      have T1 : True := trivial
      go_upto_region 5 with fail
      clear x0 x1 x2
      go_region_held3 (fun w' => w'.cell? ⟨b, off + i * 3, none⟩ = some (.string d) ∧ w'.cell? ⟨b, off + i * 3 + 1, none⟩ = some (.string r) ∧ w'.cell? ⟨b, off + i * 3 + 2, none⟩ = some (.bool v))
        (first | exact c0 | exact cE | exact cG)
        (first
          | (clear T1; go_at_call 4; refine (hS1.out _).mono ?_; rintro e w1 ⟨rfl, rfl⟩; clear hS1)
          | (go_at_call 4; refine (hS2.out _).mono ?_; rintro e w1 ⟨rfl, rfl⟩; clear hS2)
          | (refine step_run _ (by rfl) _ _ _ _ (by rfl) _ _ (by rfl) (by rfl) _ _ e9'.out ?_; clear e9'))
      clear c0 cE cG B0 bN hK hI
      go_wp2_with fail
      go_roundw
      case rel => exact ⟨i + 1, ya, yn, yc, F.out.1, F.out.2.1, by simp, rfl, H9⟩
      case measure => have := F.out.2.1; simp [intOf]; omega
    · clear i0
      obtain ⟨ks, hks⟩ : ∃ l, (gs.take i).map shK = l := ⟨_, rfl⟩
      have hkn : ks.length ≤ 1000 := by rw [← hks, List.length_map, List.length_take]; omega
      have hkz : ∀ k ∈ ks, k.1.size ≤ 65536 ∧ k.2.1.size ≤ 65536 := by rw [← hks]; exact sh_keys _
      rw [hks] at hI
      obtain ⟨ka, kc, hv, _, _, hkr⟩ := hI.out.1.row kyV_len
      injection hv with v1 v2 v3
      subst v1 v2 v3
      have HK : Hid (GRow 3 kyV wr za ks ∧ Below w.heap.size w wr ∧ ks.length ≤ 1000 ∧ (∀ k ∈ ks, k.1.size ≤ 65536 ∧ k.2.1.size ≤ 65536)) := ⟨hkr, hI.out.2, hkn, hkz⟩
      have hc : (decide ((i : Int) < (gs.length : Int)) && decide ((i : Int) < 1000)) = false := by
        rw [Bool.and_eq_false_iff, decide_eq_false_iff_not, decide_eq_false_iff_not]
        omega
      have hS3 : Hid (∀ W, Calls Tryd.prog 4 #[.string ck] W fun e w' => e = .returned (.string (sh ck)) ∧ w' = W) := fun W => hSh.out ck W
      clear hI hkr hkn hkz hks hSh HG
      by_cases hq : (i : Int) < (gs.length : Int)
      · have hq2 : ¬ (i : Int) < 1000 := by omega
        clear hc hlt hi hi2
        go_wp2_with fail
        refine (hS3.out _).mono ?_
        rintro e w2 ⟨rfl, rfl⟩
        clear hS3
        have HC : Hid ((sh ck).size ≤ 65536) := sh_size ck
        generalize sh ck = cs at *
        obtain ⟨nk, hnk⟩ : ∃ n, ks.length = n := ⟨_, rfl⟩
        have hnk' : Hid (ks.length = nk) := hnk
        have hn1 : nk ≤ 1000 := by rw [← hnk]; exact HK.out.2.2.1
        rw [hnk]
        clear hnk
        go_wp2_with fail
        go_loopw [11, 12] (fun bv iv wr => ∃ (j : Nat), j ≤ nk ∧ iv = .int .i64 (j : Int) ∧ bv = .bool (allU (ks.take j)) ∧ wr = w2) (fun _ iv _ => nk - (intOf iv).toNat)
        case atStart => exact ⟨0, Nat.zero_le _, rfl, rfl, rfl⟩
        case round =>
          obtain ⟨j, hj, rfl, rfl, rfl⟩ := hrel
          have j0 : (0 : Int) ≤ (j : Int) := Int.natCast_nonneg _
          by_cases hjt : j < nk
          · have j1 : (j : Int) < (nk : Int) := Int.ofNat_lt.2 hjt
            have hjk : j < ks.length := by rw [hnk'.out]; exact hjt
            obtain ⟨b, off, rfl, x0, x1, x2⟩ := key_at HK.out.1 j hjk
            have hz := HK.out.2.2.2 _ (List.getElem_mem hjk)
            have hat := allU_take ks j hjk
            obtain ⟨⟨d, r, v⟩, hx⟩ : ∃ k, ks[j] = k := ⟨_, rfl⟩
            rw [hx] at x0 x1 x2 hz hat
            dsimp only at hz hat x0 x1
            have C1 : Hid (Calls Tryd.prog 5 #[.string d] wr fun e w' => (∃ c p : Int, e = .returned (.tuple #[.int .i64 c, .int .i64 p]) ∧ utf d = (c == 0)) ∧ wr = w') := hCk.out d wr hz.1 HK.out.2.1
            have C2 : Hid (Calls Tryd.prog 5 #[.string r] wr fun e w' => (∃ c p : Int, e = .returned (.tuple #[.int .i64 c, .int .i64 p]) ∧ utf r = (c == 0)) ∧ wr = w') := hCk.out r wr hz.2 HK.out.2.1
            have hat' : Hid (allU (ks.take (j + 1)) = (allU (ks.take j) && (utf d && utf r)) ∧ j < nk) := ⟨hat, hjt⟩
            clear hjk hx hat hz hjt hj x2 hCk
            go_wp2_with fail
            refine C1.out.mono ?_
            rintro e w3 ⟨⟨c1, p1, rfl, hu1⟩, rfl⟩
            have hu1' : Hid (utf d = (c1 == 0)) := hu1
            clear hu1 C1
            go_wp2_with fail
            refine C2.out.mono ?_
            rintro e w3 ⟨⟨c2, p2, rfl, hu2⟩, rfl⟩
            have hu2' : Hid (utf r = (c2 == 0)) := hu2
            clear hu2 C2 x0 x1
            have hat2 : Hid (allU (ks.take (j + 1)) = (allU (ks.take j) && ((c1 == 0) && (c2 == 0))) ∧ j < nk) := by rw [← hu1'.out, ← hu2'.out]; exact hat'.out
            clear hat' hu1' hu2'
            generalize allU (ks.take j) = A at hat2 ⊢
            obtain ⟨z1, hz1⟩ : ∃ z, (c1 == 0) = z := ⟨_, rfl⟩
            obtain ⟨z2, hz2⟩ : ∃ z, (c2 == 0) = z := ⟨_, rfl⟩
            rw [hz1, hz2] at hat2
            cases A <;> cases z1 <;> cases z2
            all_goals
              go_wp2_with fail
              go_roundw
              case rel => exact ⟨j + 1, hat2.out.2, by simp, by rw [hat2.out.1]; rfl, by first | trivial | rfl⟩
              case measure => have := hat2.out.2; simp [intOf]; omega
          · obtain rfl : j = nk := by omega
            have j1 : ¬ (j : Int) < (j : Int) := by omega
            have hA : ks.take j = ks := by rw [← hnk'.out]; exact List.take_length
            rw [hA]
            have hEK : Hid (Calls Tryd.prog 6 #[.slice za j zc] wr fun e w' => ((allU ks = true ∧ ∃ X, e = .returned (.tuple #[.string X, .int .i64 0]) ∧ KyP ks X) ∨ (allU ks = false ∧ e = .returned (.tuple #[.string ⟨#[]⟩, .int .i64 224]))) ∧ Below wr.heap.size wr w') := by
              have := encodeKeys_P ks za zc wr HK.out.1 HK.out.2.2.2 HK.out.2.2.1
              rw [hnk'.out] at this
              exact this
            have hE0 : Hid (∀ W a, Calls Tryd.prog 6 #[.slice a 0 0] W fun e w' => (∃ X, e = .returned (.tuple #[.string X, .int .i64 0]) ∧ KyP [] X) ∧ Below W.heap.size W w') := fun W a => by
              refine (encodeKeys_P [] a 0 W (GRow.nil _ _ _ _) (fun k hk => by simp at hk) (by simp)).mono ?_
              rintro e w' ⟨h | h, hb⟩
              · exact ⟨h.2, hb⟩
              · exact absurd h.1 (by decide)
            clear hA hj hCk hn1
            go_wp2_with fail
            refine hEK.out.mono ?_
            rintro e w4 ⟨hx | hx, hb4⟩
            · obtain ⟨hA, X, rfl, hX⟩ := hx
              rw [hA]
              have HX : Hid (KyP ks X ∧ Below w.heap.size w w4 ∧ GRow 3 kyV w4 za ks ∧ ks.length ≤ 1000) := ⟨hX, HK.out.2.1.trans (hb4.mono HK.out.2.1.size), HK.out.1.below kyV_len hb4, HK.out.2.2.1⟩
              clear hA hX hb4 hEK hE0 HK
              -- the keys read back
              have x1 : (X.size : Int) ≤ 268435456 := by have := HX.out.1.2.1; omega
              have x0 : (X.toList == []) = false := ne_nil (HX.out.1.1)
              obtain ⟨xj, hxj⟩ : ∃ j, X.size = j + 1 := ⟨X.size - 1, by have := HX.out.1.1; omega⟩
              have hxj' : Hid (X.size = xj + 1) := hxj
              clear hxj
              go_wp2_with fail
              refine (HX.out.1.2.2.1 _).mono ?_
              rintro e kA ⟨⟨vl, rfl, hvl⟩, hbA⟩
              obtain ⟨la, lc, rfl, _, _, hlr⟩ := hvl.row kyV_len
              have Hk1 : Hid (Below w.heap.size w kA) := HX.out.2.1.trans (hbA.mono HX.out.2.1.size)
              have hSK : Hid (Calls Tryd.prog 8 #[.slice la ks.length lc, .slice za ks.length zc] kA fun r w' => r = .returned (.bool true) ∧ Below kA.heap.size kA w') := sameKeys_any ks la za lc zc kA HX.out.2.2.2 hlr (HX.out.2.2.1.below kyV_len hbA)
              have HX' : Hid (KyP ks X) := HX.out.1
              clear hvl hlr hbA HX
              rw [hnk'.out] at hSK
              rw [hnk'.out]
              go_wp2_with fail
              refine hSK.out.mono ?_
              rintro e kB ⟨rfl, hbB⟩
              have Hk2 : Hid (Below w.heap.size w kB) := Hk1.out.trans (hbB.mono Hk1.out.size)
              clear hbB hSK Hk1 x0
              obtain ⟨kC, hkC⟩ : ∃ W, kB.alloc (.cells #[.int .u8 (more % 256)] 5) = W := ⟨_, rfl⟩
              have hcv1 := mB_conv more kB
              rw [hkC] at hcv1
              have Hk3 : Hid (Below w.heap.size w kC) := by rw [← hkC]; exact Hk2.out.alloc Hk2.out.size _
              have hs0 : ¬ X.size + (mB more).size > 9223372036854775807 := by rw [mB_size]; omega
              have K1 : Hid (∀ W, Calls Tryd.prog 7 #[.string (X ++ mB more)] W fun e w' => e = .returned (.tuple #[.slice none 0 0, .int .i64 224]) ∧ Below W.heap.size W w') := fun W => HX'.out.2.2.2.1 (mB more) W (mB_ne _) (by rw [mB_size]; exact Nat.le_refl _)
              have K2 : Hid (∀ W, Calls Tryd.prog 7 #[.string (X.extract 0 xj)] W fun e w' => e = .returned (.tuple #[.slice none 0 0, .int .i64 224]) ∧ Below W.heap.size W w') := fun W => HX'.out.2.2.2.2 xj W (by have := hxj'.out; omega)
              go_wp2_with fail
              refine (K1.out _).mono ?_
              rintro e kD ⟨rfl, hbD⟩
              have Hk4 : Hid (Below w.heap.size w kD) := Hk3.out.trans (hbD.mono Hk3.out.size)
              clear hbD K1 Hk3 hcv1 hkC Hk2 hs0
              have hxj := hxj'.out
              have xsub : wrap64 ((X.size : Int) - 1) = (xj : Int) := by unfold wrap64; omega
              have xle : xj ≤ X.size := by omega
              go_wp2_with fail
              refine (K2.out _).mono ?_
              rintro e kE ⟨rfl, hbE⟩
              have Hk5 : Hid (Below w.heap.size w kE) := Hk4.out.trans (hbE.mono Hk4.out.size)
              clear hbE K2 Hk4 xsub xle hxj HX' hxj' x1
              -- the two kinds of size
              have hcz : Hid (cs.size ≤ 65536) := HC
              by_cases hz0 : size < 0 ∨ 2147483647 < size
              · have hE0 : Hid (∀ W, Calls Tryd.prog 9 #[.int .i64 size, .string cs] W fun e w' => e = .returned (.tuple #[.string ⟨#[]⟩, .int .i64 224]) ∧ Below W.heap.size W w') := fun W => encodePage_no size cs W hz0
                have hEP : Hid (∀ W, Calls Tryd.prog 9 #[.int .i64 7, .string cs] W fun e w' => (∃ X, e = .returned (.tuple #[.string X, .int .i64 0]) ∧ PgP 7 cs X) ∧ Below W.heap.size W w') := fun W => encodePage_P 7 cs W (by decide) (by decide) hcz.out
                by_cases hz1 : size < 0
                · clear hz0
                  go_wp2_with fail
                  refine (hE0.out _).mono ?_
                  rintro e q1 ⟨rfl, hb1⟩
                  have Hq1 : Hid (Below w.heap.size w q1) := Hk5.out.trans (hb1.mono Hk5.out.size)
                  clear hE0 hb1 Hk5
                  go_wp2_with fail
                  -- the page, of the size N
                  refine (hEP.out _).mono ?_
                  rintro e pA ⟨⟨Y, rfl, hY⟩, hbA⟩
                  have Hp1 : Hid (PgP 7 cs Y ∧ Below w.heap.size w pA) := ⟨hY, Hq1.out.trans (hbA.mono Hq1.out.size)⟩
                  clear hEP hY hbA Hq1
                  have y1 : (Y.size : Int) ≤ 268435456 := by have := Hp1.out.1.2.1; omega
                  obtain ⟨yj, hyj⟩ : ∃ j, Y.size = j + 1 := ⟨Y.size - 1, by have := Hp1.out.1.1; omega⟩
                  have hyj' : Hid (Y.size = yj + 1) := hyj
                  clear hyj
                  go_wp2_with fail
                  refine (Hp1.out.1.2.2.1 _).mono ?_
                  rintro e pB ⟨rfl, hbB⟩
                  have Hp2 : Hid (Below w.heap.size w pB) := Hp1.out.2.trans (hbB.mono Hp1.out.2.size)
                  have Hp1' : Hid (PgP 7 cs Y) := Hp1.out.1
                  clear hbB Hp1
                  obtain ⟨pC, hpC⟩ : ∃ W, pB.alloc (.cells #[.int .u8 (more % 256)] 5) = W := ⟨_, rfl⟩
                  have hcv2 := mB_conv more pB
                  rw [hpC] at hcv2
                  have Hp3 : Hid (Below w.heap.size w pC) := by rw [← hpC]; exact Hp2.out.alloc Hp2.out.size _
                  have hs1 : ¬ Y.size + (mB more).size > 9223372036854775807 := by rw [mB_size]; omega
                  have K1 : Hid (∀ W, Calls Tryd.prog 10 #[.string (Y ++ mB more)] W fun e w' => e = .returned (.tuple #[.int .i64 0, .string ⟨#[]⟩, .int .i64 224]) ∧ Below W.heap.size W w') := fun W => Hp1'.out.2.2.2.1 (mB more) W (mB_ne _) (by rw [mB_size]; exact Nat.le_refl _)
                  have K2 : Hid (∀ W, Calls Tryd.prog 10 #[.string (Y.extract 0 yj)] W fun e w' => e = .returned (.tuple #[.int .i64 0, .string ⟨#[]⟩, .int .i64 224]) ∧ Below W.heap.size W w') := fun W => Hp1'.out.2.2.2.2 yj W (by have := hyj'.out; omega)
                  go_wp2_with fail
                  refine (K1.out _).mono ?_
                  rintro e pD ⟨rfl, hbD⟩
                  have Hp4 : Hid (Below w.heap.size w pD) := Hp3.out.trans (hbD.mono Hp3.out.size)
                  clear hbD K1 Hp3 hcv2 hpC Hp2
                  have hyj := hyj'.out
                  have ysub : wrap64 ((Y.size : Int) - 1) = (yj : Int) := by unfold wrap64; omega
                  have yle : yj ≤ Y.size := by omega
                  go_wp2_with fail
                  refine (K2.out _).mono ?_
                  rintro e pE ⟨rfl, hbE⟩
                  have Hp5 : Hid (Below w.heap.size w pE) := Hp4.out.trans (hbE.mono Hp4.out.size)
                  clear hbE K2 Hp4 ysub yle hyj
                  go_wp2_with fail
                  go_ret
                  exact ⟨rfl, Hp5.out⟩
                · have hz2 : 2147483647 < size := by omega
                  clear hz0
                  go_wp2_with fail
                  refine (hE0.out _).mono ?_
                  rintro e q1 ⟨rfl, hb1⟩
                  have Hq1 : Hid (Below w.heap.size w q1) := Hk5.out.trans (hb1.mono Hk5.out.size)
                  clear hE0 hb1 Hk5
                  go_wp2_with fail
                  -- the page, of the size N
                  refine (hEP.out _).mono ?_
                  rintro e pA ⟨⟨Y, rfl, hY⟩, hbA⟩
                  have Hp1 : Hid (PgP 7 cs Y ∧ Below w.heap.size w pA) := ⟨hY, Hq1.out.trans (hbA.mono Hq1.out.size)⟩
                  clear hEP hY hbA Hq1
                  have y1 : (Y.size : Int) ≤ 268435456 := by have := Hp1.out.1.2.1; omega
                  obtain ⟨yj, hyj⟩ : ∃ j, Y.size = j + 1 := ⟨Y.size - 1, by have := Hp1.out.1.1; omega⟩
                  have hyj' : Hid (Y.size = yj + 1) := hyj
                  clear hyj
                  go_wp2_with fail
                  refine (Hp1.out.1.2.2.1 _).mono ?_
                  rintro e pB ⟨rfl, hbB⟩
                  have Hp2 : Hid (Below w.heap.size w pB) := Hp1.out.2.trans (hbB.mono Hp1.out.2.size)
                  have Hp1' : Hid (PgP 7 cs Y) := Hp1.out.1
                  clear hbB Hp1
                  obtain ⟨pC, hpC⟩ : ∃ W, pB.alloc (.cells #[.int .u8 (more % 256)] 5) = W := ⟨_, rfl⟩
                  have hcv2 := mB_conv more pB
                  rw [hpC] at hcv2
                  have Hp3 : Hid (Below w.heap.size w pC) := by rw [← hpC]; exact Hp2.out.alloc Hp2.out.size _
                  have hs1 : ¬ Y.size + (mB more).size > 9223372036854775807 := by rw [mB_size]; omega
                  have K1 : Hid (∀ W, Calls Tryd.prog 10 #[.string (Y ++ mB more)] W fun e w' => e = .returned (.tuple #[.int .i64 0, .string ⟨#[]⟩, .int .i64 224]) ∧ Below W.heap.size W w') := fun W => Hp1'.out.2.2.2.1 (mB more) W (mB_ne _) (by rw [mB_size]; exact Nat.le_refl _)
                  have K2 : Hid (∀ W, Calls Tryd.prog 10 #[.string (Y.extract 0 yj)] W fun e w' => e = .returned (.tuple #[.int .i64 0, .string ⟨#[]⟩, .int .i64 224]) ∧ Below W.heap.size W w') := fun W => Hp1'.out.2.2.2.2 yj W (by have := hyj'.out; omega)
                  go_wp2_with fail
                  refine (K1.out _).mono ?_
                  rintro e pD ⟨rfl, hbD⟩
                  have Hp4 : Hid (Below w.heap.size w pD) := Hp3.out.trans (hbD.mono Hp3.out.size)
                  clear hbD K1 Hp3 hcv2 hpC Hp2
                  have hyj := hyj'.out
                  have ysub : wrap64 ((Y.size : Int) - 1) = (yj : Int) := by unfold wrap64; omega
                  have yle : yj ≤ Y.size := by omega
                  go_wp2_with fail
                  refine (K2.out _).mono ?_
                  rintro e pE ⟨rfl, hbE⟩
                  have Hp5 : Hid (Below w.heap.size w pE) := Hp4.out.trans (hbE.mono Hp4.out.size)
                  clear hbE K2 Hp4 ysub yle hyj
                  go_wp2_with fail
                  go_ret
                  exact ⟨rfl, Hp5.out⟩
              · have hz1 : ¬ size < 0 := by omega
                have hz2 : ¬ 2147483647 < size := by omega
                have hEP : Hid (∀ W, Calls Tryd.prog 9 #[.int .i64 size, .string cs] W fun e w' => (∃ X, e = .returned (.tuple #[.string X, .int .i64 0]) ∧ PgP size cs X) ∧ Below W.heap.size W w') := fun W => encodePage_P size cs W (by omega) (by omega) hcz.out
                clear hz0
                go_wp2_with fail
                -- the page, of the size N
                refine (hEP.out _).mono ?_
                rintro e pA ⟨⟨Y, rfl, hY⟩, hbA⟩
                have Hp1 : Hid (PgP size cs Y ∧ Below w.heap.size w pA) := ⟨hY, Hk5.out.trans (hbA.mono Hk5.out.size)⟩
                clear hEP hY hbA Hk5
                have y1 : (Y.size : Int) ≤ 268435456 := by have := Hp1.out.1.2.1; omega
                obtain ⟨yj, hyj⟩ : ∃ j, Y.size = j + 1 := ⟨Y.size - 1, by have := Hp1.out.1.1; omega⟩
                have hyj' : Hid (Y.size = yj + 1) := hyj
                clear hyj
                go_wp2_with fail
                refine (Hp1.out.1.2.2.1 _).mono ?_
                rintro e pB ⟨rfl, hbB⟩
                have Hp2 : Hid (Below w.heap.size w pB) := Hp1.out.2.trans (hbB.mono Hp1.out.2.size)
                have Hp1' : Hid (PgP size cs Y) := Hp1.out.1
                clear hbB Hp1
                obtain ⟨pC, hpC⟩ : ∃ W, pB.alloc (.cells #[.int .u8 (more % 256)] 5) = W := ⟨_, rfl⟩
                have hcv2 := mB_conv more pB
                rw [hpC] at hcv2
                have Hp3 : Hid (Below w.heap.size w pC) := by rw [← hpC]; exact Hp2.out.alloc Hp2.out.size _
                have hs1 : ¬ Y.size + (mB more).size > 9223372036854775807 := by rw [mB_size]; omega
                have K1 : Hid (∀ W, Calls Tryd.prog 10 #[.string (Y ++ mB more)] W fun e w' => e = .returned (.tuple #[.int .i64 0, .string ⟨#[]⟩, .int .i64 224]) ∧ Below W.heap.size W w') := fun W => Hp1'.out.2.2.2.1 (mB more) W (mB_ne _) (by rw [mB_size]; exact Nat.le_refl _)
                have K2 : Hid (∀ W, Calls Tryd.prog 10 #[.string (Y.extract 0 yj)] W fun e w' => e = .returned (.tuple #[.int .i64 0, .string ⟨#[]⟩, .int .i64 224]) ∧ Below W.heap.size W w') := fun W => Hp1'.out.2.2.2.2 yj W (by have := hyj'.out; omega)
                go_wp2_with fail
                refine (K1.out _).mono ?_
                rintro e pD ⟨rfl, hbD⟩
                have Hp4 : Hid (Below w.heap.size w pD) := Hp3.out.trans (hbD.mono Hp3.out.size)
                clear hbD K1 Hp3 hcv2 hpC Hp2
                have hyj := hyj'.out
                have ysub : wrap64 ((Y.size : Int) - 1) = (yj : Int) := by unfold wrap64; omega
                have yle : yj ≤ Y.size := by omega
                go_wp2_with fail
                refine (K2.out _).mono ?_
                rintro e pE ⟨rfl, hbE⟩
                have Hp5 : Hid (Below w.heap.size w pE) := Hp4.out.trans (hbE.mono Hp4.out.size)
                clear hbE K2 Hp4 ysub yle hyj
                go_wp2_with fail
                go_ret
                exact ⟨rfl, Hp5.out⟩
            · obtain ⟨hA, rfl⟩ := hx
              rw [hA]
              have H4 : Hid (Below w.heap.size w w4) := HK.out.2.1.trans (hb4.mono HK.out.2.1.size)
              clear hA hb4 hEK HK
              go_wp2_with fail
              obtain ⟨w5, hw5⟩ : ∃ W, w4.alloc (.cells #[] 25) = W := ⟨_, rfl⟩
              rw [hw5]
              have H5 : Hid (Below w.heap.size w w5) := by rw [← hw5]; exact H4.out.alloc H4.out.size _
              refine (hE0.out w5 _).mono ?_
              rintro e w6 ⟨⟨X, rfl, hX⟩, hb6⟩
              have HX : Hid (KyP [] X ∧ Below w.heap.size w w6 ∧ GRow 3 kyV w6 none [] ∧ ([] : List Ky).length ≤ 1000) := ⟨hX, H5.out.trans (hb6.mono H5.out.size), GRow.nil _ _ _ _, Nat.zero_le _⟩
              clear hX hb6 hE0 H4 H5 hw5
              -- the keys read back
              have x1 : (X.size : Int) ≤ 268435456 := by have := HX.out.1.2.1; omega
              have x0 : (X.toList == []) = false := ne_nil (HX.out.1.1)
              obtain ⟨xj, hxj⟩ : ∃ j, X.size = j + 1 := ⟨X.size - 1, by have := HX.out.1.1; omega⟩
              have hxj' : Hid (X.size = xj + 1) := hxj
              clear hxj
              go_wp2_with fail
              refine (HX.out.1.2.2.1 _).mono ?_
              rintro e kA ⟨⟨vl, rfl, hvl⟩, hbA⟩
              obtain ⟨la, lc, rfl, _, _, hlr⟩ := hvl.row kyV_len
              have Hk1 : Hid (Below w.heap.size w kA) := HX.out.2.1.trans (hbA.mono HX.out.2.1.size)
              have hSK : Hid (Calls Tryd.prog 8 #[.slice la ([] : List Ky).length lc, .slice none ([] : List Ky).length 0] kA fun r w' => r = .returned (.bool true) ∧ Below kA.heap.size kA w') := sameKeys_any ([] : List Ky) la none lc 0 kA HX.out.2.2.2 hlr (HX.out.2.2.1.below kyV_len hbA)
              have HX' : Hid (KyP ([] : List Ky) X) := HX.out.1
              clear hvl hlr hbA HX
              go_wp2_with fail
              refine hSK.out.mono ?_
              rintro e kB ⟨rfl, hbB⟩
              have Hk2 : Hid (Below w.heap.size w kB) := Hk1.out.trans (hbB.mono Hk1.out.size)
              clear hbB hSK Hk1 x0
              obtain ⟨kC, hkC⟩ : ∃ W, kB.alloc (.cells #[.int .u8 (more % 256)] 5) = W := ⟨_, rfl⟩
              have hcv1 := mB_conv more kB
              rw [hkC] at hcv1
              have Hk3 : Hid (Below w.heap.size w kC) := by rw [← hkC]; exact Hk2.out.alloc Hk2.out.size _
              have hs0 : ¬ X.size + (mB more).size > 9223372036854775807 := by rw [mB_size]; omega
              have K1 : Hid (∀ W, Calls Tryd.prog 7 #[.string (X ++ mB more)] W fun e w' => e = .returned (.tuple #[.slice none 0 0, .int .i64 224]) ∧ Below W.heap.size W w') := fun W => HX'.out.2.2.2.1 (mB more) W (mB_ne _) (by rw [mB_size]; exact Nat.le_refl _)
              have K2 : Hid (∀ W, Calls Tryd.prog 7 #[.string (X.extract 0 xj)] W fun e w' => e = .returned (.tuple #[.slice none 0 0, .int .i64 224]) ∧ Below W.heap.size W w') := fun W => HX'.out.2.2.2.2 xj W (by have := hxj'.out; omega)
              go_wp2_with fail
              refine (K1.out _).mono ?_
              rintro e kD ⟨rfl, hbD⟩
              have Hk4 : Hid (Below w.heap.size w kD) := Hk3.out.trans (hbD.mono Hk3.out.size)
              clear hbD K1 Hk3 hcv1 hkC Hk2 hs0
              have hxj := hxj'.out
              have xsub : wrap64 ((X.size : Int) - 1) = (xj : Int) := by unfold wrap64; omega
              have xle : xj ≤ X.size := by omega
              go_wp2_with fail
              refine (K2.out _).mono ?_
              rintro e kE ⟨rfl, hbE⟩
              have Hk5 : Hid (Below w.heap.size w kE) := Hk4.out.trans (hbE.mono Hk4.out.size)
              clear hbE K2 Hk4 xsub xle hxj HX' hxj' x1
              -- the two kinds of size
              have hcz : Hid (cs.size ≤ 65536) := HC
              by_cases hz0 : size < 0 ∨ 2147483647 < size
              · have hE0 : Hid (∀ W, Calls Tryd.prog 9 #[.int .i64 size, .string cs] W fun e w' => e = .returned (.tuple #[.string ⟨#[]⟩, .int .i64 224]) ∧ Below W.heap.size W w') := fun W => encodePage_no size cs W hz0
                have hEP : Hid (∀ W, Calls Tryd.prog 9 #[.int .i64 7, .string cs] W fun e w' => (∃ X, e = .returned (.tuple #[.string X, .int .i64 0]) ∧ PgP 7 cs X) ∧ Below W.heap.size W w') := fun W => encodePage_P 7 cs W (by decide) (by decide) hcz.out
                by_cases hz1 : size < 0
                · clear hz0
                  go_wp2_with fail
                  refine (hE0.out _).mono ?_
                  rintro e q1 ⟨rfl, hb1⟩
                  have Hq1 : Hid (Below w.heap.size w q1) := Hk5.out.trans (hb1.mono Hk5.out.size)
                  clear hE0 hb1 Hk5
                  go_wp2_with fail
                  -- the page, of the size N
                  refine (hEP.out _).mono ?_
                  rintro e pA ⟨⟨Y, rfl, hY⟩, hbA⟩
                  have Hp1 : Hid (PgP 7 cs Y ∧ Below w.heap.size w pA) := ⟨hY, Hq1.out.trans (hbA.mono Hq1.out.size)⟩
                  clear hEP hY hbA Hq1
                  have y1 : (Y.size : Int) ≤ 268435456 := by have := Hp1.out.1.2.1; omega
                  obtain ⟨yj, hyj⟩ : ∃ j, Y.size = j + 1 := ⟨Y.size - 1, by have := Hp1.out.1.1; omega⟩
                  have hyj' : Hid (Y.size = yj + 1) := hyj
                  clear hyj
                  go_wp2_with fail
                  refine (Hp1.out.1.2.2.1 _).mono ?_
                  rintro e pB ⟨rfl, hbB⟩
                  have Hp2 : Hid (Below w.heap.size w pB) := Hp1.out.2.trans (hbB.mono Hp1.out.2.size)
                  have Hp1' : Hid (PgP 7 cs Y) := Hp1.out.1
                  clear hbB Hp1
                  obtain ⟨pC, hpC⟩ : ∃ W, pB.alloc (.cells #[.int .u8 (more % 256)] 5) = W := ⟨_, rfl⟩
                  have hcv2 := mB_conv more pB
                  rw [hpC] at hcv2
                  have Hp3 : Hid (Below w.heap.size w pC) := by rw [← hpC]; exact Hp2.out.alloc Hp2.out.size _
                  have hs1 : ¬ Y.size + (mB more).size > 9223372036854775807 := by rw [mB_size]; omega
                  have K1 : Hid (∀ W, Calls Tryd.prog 10 #[.string (Y ++ mB more)] W fun e w' => e = .returned (.tuple #[.int .i64 0, .string ⟨#[]⟩, .int .i64 224]) ∧ Below W.heap.size W w') := fun W => Hp1'.out.2.2.2.1 (mB more) W (mB_ne _) (by rw [mB_size]; exact Nat.le_refl _)
                  have K2 : Hid (∀ W, Calls Tryd.prog 10 #[.string (Y.extract 0 yj)] W fun e w' => e = .returned (.tuple #[.int .i64 0, .string ⟨#[]⟩, .int .i64 224]) ∧ Below W.heap.size W w') := fun W => Hp1'.out.2.2.2.2 yj W (by have := hyj'.out; omega)
                  go_wp2_with fail
                  refine (K1.out _).mono ?_
                  rintro e pD ⟨rfl, hbD⟩
                  have Hp4 : Hid (Below w.heap.size w pD) := Hp3.out.trans (hbD.mono Hp3.out.size)
                  clear hbD K1 Hp3 hcv2 hpC Hp2
                  have hyj := hyj'.out
                  have ysub : wrap64 ((Y.size : Int) - 1) = (yj : Int) := by unfold wrap64; omega
                  have yle : yj ≤ Y.size := by omega
                  go_wp2_with fail
                  refine (K2.out _).mono ?_
                  rintro e pE ⟨rfl, hbE⟩
                  have Hp5 : Hid (Below w.heap.size w pE) := Hp4.out.trans (hbE.mono Hp4.out.size)
                  clear hbE K2 Hp4 ysub yle hyj
                  go_wp2_with fail
                  go_ret
                  exact ⟨rfl, Hp5.out⟩
                · have hz2 : 2147483647 < size := by omega
                  clear hz0
                  go_wp2_with fail
                  refine (hE0.out _).mono ?_
                  rintro e q1 ⟨rfl, hb1⟩
                  have Hq1 : Hid (Below w.heap.size w q1) := Hk5.out.trans (hb1.mono Hk5.out.size)
                  clear hE0 hb1 Hk5
                  go_wp2_with fail
                  -- the page, of the size N
                  refine (hEP.out _).mono ?_
                  rintro e pA ⟨⟨Y, rfl, hY⟩, hbA⟩
                  have Hp1 : Hid (PgP 7 cs Y ∧ Below w.heap.size w pA) := ⟨hY, Hq1.out.trans (hbA.mono Hq1.out.size)⟩
                  clear hEP hY hbA Hq1
                  have y1 : (Y.size : Int) ≤ 268435456 := by have := Hp1.out.1.2.1; omega
                  obtain ⟨yj, hyj⟩ : ∃ j, Y.size = j + 1 := ⟨Y.size - 1, by have := Hp1.out.1.1; omega⟩
                  have hyj' : Hid (Y.size = yj + 1) := hyj
                  clear hyj
                  go_wp2_with fail
                  refine (Hp1.out.1.2.2.1 _).mono ?_
                  rintro e pB ⟨rfl, hbB⟩
                  have Hp2 : Hid (Below w.heap.size w pB) := Hp1.out.2.trans (hbB.mono Hp1.out.2.size)
                  have Hp1' : Hid (PgP 7 cs Y) := Hp1.out.1
                  clear hbB Hp1
                  obtain ⟨pC, hpC⟩ : ∃ W, pB.alloc (.cells #[.int .u8 (more % 256)] 5) = W := ⟨_, rfl⟩
                  have hcv2 := mB_conv more pB
                  rw [hpC] at hcv2
                  have Hp3 : Hid (Below w.heap.size w pC) := by rw [← hpC]; exact Hp2.out.alloc Hp2.out.size _
                  have hs1 : ¬ Y.size + (mB more).size > 9223372036854775807 := by rw [mB_size]; omega
                  have K1 : Hid (∀ W, Calls Tryd.prog 10 #[.string (Y ++ mB more)] W fun e w' => e = .returned (.tuple #[.int .i64 0, .string ⟨#[]⟩, .int .i64 224]) ∧ Below W.heap.size W w') := fun W => Hp1'.out.2.2.2.1 (mB more) W (mB_ne _) (by rw [mB_size]; exact Nat.le_refl _)
                  have K2 : Hid (∀ W, Calls Tryd.prog 10 #[.string (Y.extract 0 yj)] W fun e w' => e = .returned (.tuple #[.int .i64 0, .string ⟨#[]⟩, .int .i64 224]) ∧ Below W.heap.size W w') := fun W => Hp1'.out.2.2.2.2 yj W (by have := hyj'.out; omega)
                  go_wp2_with fail
                  refine (K1.out _).mono ?_
                  rintro e pD ⟨rfl, hbD⟩
                  have Hp4 : Hid (Below w.heap.size w pD) := Hp3.out.trans (hbD.mono Hp3.out.size)
                  clear hbD K1 Hp3 hcv2 hpC Hp2
                  have hyj := hyj'.out
                  have ysub : wrap64 ((Y.size : Int) - 1) = (yj : Int) := by unfold wrap64; omega
                  have yle : yj ≤ Y.size := by omega
                  go_wp2_with fail
                  refine (K2.out _).mono ?_
                  rintro e pE ⟨rfl, hbE⟩
                  have Hp5 : Hid (Below w.heap.size w pE) := Hp4.out.trans (hbE.mono Hp4.out.size)
                  clear hbE K2 Hp4 ysub yle hyj
                  go_wp2_with fail
                  go_ret
                  exact ⟨rfl, Hp5.out⟩
              · have hz1 : ¬ size < 0 := by omega
                have hz2 : ¬ 2147483647 < size := by omega
                have hEP : Hid (∀ W, Calls Tryd.prog 9 #[.int .i64 size, .string cs] W fun e w' => (∃ X, e = .returned (.tuple #[.string X, .int .i64 0]) ∧ PgP size cs X) ∧ Below W.heap.size W w') := fun W => encodePage_P size cs W (by omega) (by omega) hcz.out
                clear hz0
                go_wp2_with fail
                -- the page, of the size N
                refine (hEP.out _).mono ?_
                rintro e pA ⟨⟨Y, rfl, hY⟩, hbA⟩
                have Hp1 : Hid (PgP size cs Y ∧ Below w.heap.size w pA) := ⟨hY, Hk5.out.trans (hbA.mono Hk5.out.size)⟩
                clear hEP hY hbA Hk5
                have y1 : (Y.size : Int) ≤ 268435456 := by have := Hp1.out.1.2.1; omega
                obtain ⟨yj, hyj⟩ : ∃ j, Y.size = j + 1 := ⟨Y.size - 1, by have := Hp1.out.1.1; omega⟩
                have hyj' : Hid (Y.size = yj + 1) := hyj
                clear hyj
                go_wp2_with fail
                refine (Hp1.out.1.2.2.1 _).mono ?_
                rintro e pB ⟨rfl, hbB⟩
                have Hp2 : Hid (Below w.heap.size w pB) := Hp1.out.2.trans (hbB.mono Hp1.out.2.size)
                have Hp1' : Hid (PgP size cs Y) := Hp1.out.1
                clear hbB Hp1
                obtain ⟨pC, hpC⟩ : ∃ W, pB.alloc (.cells #[.int .u8 (more % 256)] 5) = W := ⟨_, rfl⟩
                have hcv2 := mB_conv more pB
                rw [hpC] at hcv2
                have Hp3 : Hid (Below w.heap.size w pC) := by rw [← hpC]; exact Hp2.out.alloc Hp2.out.size _
                have hs1 : ¬ Y.size + (mB more).size > 9223372036854775807 := by rw [mB_size]; omega
                have K1 : Hid (∀ W, Calls Tryd.prog 10 #[.string (Y ++ mB more)] W fun e w' => e = .returned (.tuple #[.int .i64 0, .string ⟨#[]⟩, .int .i64 224]) ∧ Below W.heap.size W w') := fun W => Hp1'.out.2.2.2.1 (mB more) W (mB_ne _) (by rw [mB_size]; exact Nat.le_refl _)
                have K2 : Hid (∀ W, Calls Tryd.prog 10 #[.string (Y.extract 0 yj)] W fun e w' => e = .returned (.tuple #[.int .i64 0, .string ⟨#[]⟩, .int .i64 224]) ∧ Below W.heap.size W w') := fun W => Hp1'.out.2.2.2.2 yj W (by have := hyj'.out; omega)
                go_wp2_with fail
                refine (K1.out _).mono ?_
                rintro e pD ⟨rfl, hbD⟩
                have Hp4 : Hid (Below w.heap.size w pD) := Hp3.out.trans (hbD.mono Hp3.out.size)
                clear hbD K1 Hp3 hcv2 hpC Hp2
                have hyj := hyj'.out
                have ysub : wrap64 ((Y.size : Int) - 1) = (yj : Int) := by unfold wrap64; omega
                have yle : yj ≤ Y.size := by omega
                go_wp2_with fail
                refine (K2.out _).mono ?_
                rintro e pE ⟨rfl, hbE⟩
                have Hp5 : Hid (Below w.heap.size w pE) := Hp4.out.trans (hbE.mono Hp4.out.size)
                clear hbE K2 Hp4 ysub yle hyj
                go_wp2_with fail
                go_ret
                exact ⟨rfl, Hp5.out⟩
      · clear hc hlt hi hi2
        go_wp2_with fail
        refine (hS3.out _).mono ?_
        rintro e w2 ⟨rfl, rfl⟩
        clear hS3
        have HC : Hid ((sh ck).size ≤ 65536) := sh_size ck
        generalize sh ck = cs at *
        obtain ⟨nk, hnk⟩ : ∃ n, ks.length = n := ⟨_, rfl⟩
        have hnk' : Hid (ks.length = nk) := hnk
        have hn1 : nk ≤ 1000 := by rw [← hnk]; exact HK.out.2.2.1
        rw [hnk]
        clear hnk
        go_wp2_with fail
        go_loopw [11, 12] (fun bv iv wr => ∃ (j : Nat), j ≤ nk ∧ iv = .int .i64 (j : Int) ∧ bv = .bool (allU (ks.take j)) ∧ wr = w2) (fun _ iv _ => nk - (intOf iv).toNat)
        case atStart => exact ⟨0, Nat.zero_le _, rfl, rfl, rfl⟩
        case round =>
          obtain ⟨j, hj, rfl, rfl, rfl⟩ := hrel
          have j0 : (0 : Int) ≤ (j : Int) := Int.natCast_nonneg _
          by_cases hjt : j < nk
          · have j1 : (j : Int) < (nk : Int) := Int.ofNat_lt.2 hjt
            have hjk : j < ks.length := by rw [hnk'.out]; exact hjt
            obtain ⟨b, off, rfl, x0, x1, x2⟩ := key_at HK.out.1 j hjk
            have hz := HK.out.2.2.2 _ (List.getElem_mem hjk)
            have hat := allU_take ks j hjk
            obtain ⟨⟨d, r, v⟩, hx⟩ : ∃ k, ks[j] = k := ⟨_, rfl⟩
            rw [hx] at x0 x1 x2 hz hat
            dsimp only at hz hat x0 x1
            have C1 : Hid (Calls Tryd.prog 5 #[.string d] wr fun e w' => (∃ c p : Int, e = .returned (.tuple #[.int .i64 c, .int .i64 p]) ∧ utf d = (c == 0)) ∧ wr = w') := hCk.out d wr hz.1 HK.out.2.1
            have C2 : Hid (Calls Tryd.prog 5 #[.string r] wr fun e w' => (∃ c p : Int, e = .returned (.tuple #[.int .i64 c, .int .i64 p]) ∧ utf r = (c == 0)) ∧ wr = w') := hCk.out r wr hz.2 HK.out.2.1
            have hat' : Hid (allU (ks.take (j + 1)) = (allU (ks.take j) && (utf d && utf r)) ∧ j < nk) := ⟨hat, hjt⟩
            clear hjk hx hat hz hjt hj x2 hCk
            go_wp2_with fail
            refine C1.out.mono ?_
            rintro e w3 ⟨⟨c1, p1, rfl, hu1⟩, rfl⟩
            have hu1' : Hid (utf d = (c1 == 0)) := hu1
            clear hu1 C1
            go_wp2_with fail
            refine C2.out.mono ?_
            rintro e w3 ⟨⟨c2, p2, rfl, hu2⟩, rfl⟩
            have hu2' : Hid (utf r = (c2 == 0)) := hu2
            clear hu2 C2 x0 x1
            have hat2 : Hid (allU (ks.take (j + 1)) = (allU (ks.take j) && ((c1 == 0) && (c2 == 0))) ∧ j < nk) := by rw [← hu1'.out, ← hu2'.out]; exact hat'.out
            clear hat' hu1' hu2'
            generalize allU (ks.take j) = A at hat2 ⊢
            obtain ⟨z1, hz1⟩ : ∃ z, (c1 == 0) = z := ⟨_, rfl⟩
            obtain ⟨z2, hz2⟩ : ∃ z, (c2 == 0) = z := ⟨_, rfl⟩
            rw [hz1, hz2] at hat2
            cases A <;> cases z1 <;> cases z2
            all_goals
              go_wp2_with fail
              go_roundw
              case rel => exact ⟨j + 1, hat2.out.2, by simp, by rw [hat2.out.1]; rfl, by first | trivial | rfl⟩
              case measure => have := hat2.out.2; simp [intOf]; omega
          · obtain rfl : j = nk := by omega
            have j1 : ¬ (j : Int) < (j : Int) := by omega
            have hA : ks.take j = ks := by rw [← hnk'.out]; exact List.take_length
            rw [hA]
            have hEK : Hid (Calls Tryd.prog 6 #[.slice za j zc] wr fun e w' => ((allU ks = true ∧ ∃ X, e = .returned (.tuple #[.string X, .int .i64 0]) ∧ KyP ks X) ∨ (allU ks = false ∧ e = .returned (.tuple #[.string ⟨#[]⟩, .int .i64 224]))) ∧ Below wr.heap.size wr w') := by
              have := encodeKeys_P ks za zc wr HK.out.1 HK.out.2.2.2 HK.out.2.2.1
              rw [hnk'.out] at this
              exact this
            have hE0 : Hid (∀ W a, Calls Tryd.prog 6 #[.slice a 0 0] W fun e w' => (∃ X, e = .returned (.tuple #[.string X, .int .i64 0]) ∧ KyP [] X) ∧ Below W.heap.size W w') := fun W a => by
              refine (encodeKeys_P [] a 0 W (GRow.nil _ _ _ _) (fun k hk => by simp at hk) (by simp)).mono ?_
              rintro e w' ⟨h | h, hb⟩
              · exact ⟨h.2, hb⟩
              · exact absurd h.1 (by decide)
            clear hA hj hCk hn1
            go_wp2_with fail
            refine hEK.out.mono ?_
            rintro e w4 ⟨hx | hx, hb4⟩
            · obtain ⟨hA, X, rfl, hX⟩ := hx
              rw [hA]
              have HX : Hid (KyP ks X ∧ Below w.heap.size w w4 ∧ GRow 3 kyV w4 za ks ∧ ks.length ≤ 1000) := ⟨hX, HK.out.2.1.trans (hb4.mono HK.out.2.1.size), HK.out.1.below kyV_len hb4, HK.out.2.2.1⟩
              clear hA hX hb4 hEK hE0 HK
              -- the keys read back
              have x1 : (X.size : Int) ≤ 268435456 := by have := HX.out.1.2.1; omega
              have x0 : (X.toList == []) = false := ne_nil (HX.out.1.1)
              obtain ⟨xj, hxj⟩ : ∃ j, X.size = j + 1 := ⟨X.size - 1, by have := HX.out.1.1; omega⟩
              have hxj' : Hid (X.size = xj + 1) := hxj
              clear hxj
              go_wp2_with fail
              refine (HX.out.1.2.2.1 _).mono ?_
              rintro e kA ⟨⟨vl, rfl, hvl⟩, hbA⟩
              obtain ⟨la, lc, rfl, _, _, hlr⟩ := hvl.row kyV_len
              have Hk1 : Hid (Below w.heap.size w kA) := HX.out.2.1.trans (hbA.mono HX.out.2.1.size)
              have hSK : Hid (Calls Tryd.prog 8 #[.slice la ks.length lc, .slice za ks.length zc] kA fun r w' => r = .returned (.bool true) ∧ Below kA.heap.size kA w') := sameKeys_any ks la za lc zc kA HX.out.2.2.2 hlr (HX.out.2.2.1.below kyV_len hbA)
              have HX' : Hid (KyP ks X) := HX.out.1
              clear hvl hlr hbA HX
              rw [hnk'.out] at hSK
              rw [hnk'.out]
              go_wp2_with fail
              refine hSK.out.mono ?_
              rintro e kB ⟨rfl, hbB⟩
              have Hk2 : Hid (Below w.heap.size w kB) := Hk1.out.trans (hbB.mono Hk1.out.size)
              clear hbB hSK Hk1 x0
              obtain ⟨kC, hkC⟩ : ∃ W, kB.alloc (.cells #[.int .u8 (more % 256)] 5) = W := ⟨_, rfl⟩
              have hcv1 := mB_conv more kB
              rw [hkC] at hcv1
              have Hk3 : Hid (Below w.heap.size w kC) := by rw [← hkC]; exact Hk2.out.alloc Hk2.out.size _
              have hs0 : ¬ X.size + (mB more).size > 9223372036854775807 := by rw [mB_size]; omega
              have K1 : Hid (∀ W, Calls Tryd.prog 7 #[.string (X ++ mB more)] W fun e w' => e = .returned (.tuple #[.slice none 0 0, .int .i64 224]) ∧ Below W.heap.size W w') := fun W => HX'.out.2.2.2.1 (mB more) W (mB_ne _) (by rw [mB_size]; exact Nat.le_refl _)
              have K2 : Hid (∀ W, Calls Tryd.prog 7 #[.string (X.extract 0 xj)] W fun e w' => e = .returned (.tuple #[.slice none 0 0, .int .i64 224]) ∧ Below W.heap.size W w') := fun W => HX'.out.2.2.2.2 xj W (by have := hxj'.out; omega)
              go_wp2_with fail
              refine (K1.out _).mono ?_
              rintro e kD ⟨rfl, hbD⟩
              have Hk4 : Hid (Below w.heap.size w kD) := Hk3.out.trans (hbD.mono Hk3.out.size)
              clear hbD K1 Hk3 hcv1 hkC Hk2 hs0
              have hxj := hxj'.out
              have xsub : wrap64 ((X.size : Int) - 1) = (xj : Int) := by unfold wrap64; omega
              have xle : xj ≤ X.size := by omega
              go_wp2_with fail
              refine (K2.out _).mono ?_
              rintro e kE ⟨rfl, hbE⟩
              have Hk5 : Hid (Below w.heap.size w kE) := Hk4.out.trans (hbE.mono Hk4.out.size)
              clear hbE K2 Hk4 xsub xle hxj HX' hxj' x1
              -- the two kinds of size
              have hcz : Hid (cs.size ≤ 65536) := HC
              by_cases hz0 : size < 0 ∨ 2147483647 < size
              · have hE0 : Hid (∀ W, Calls Tryd.prog 9 #[.int .i64 size, .string cs] W fun e w' => e = .returned (.tuple #[.string ⟨#[]⟩, .int .i64 224]) ∧ Below W.heap.size W w') := fun W => encodePage_no size cs W hz0
                have hEP : Hid (∀ W, Calls Tryd.prog 9 #[.int .i64 7, .string cs] W fun e w' => (∃ X, e = .returned (.tuple #[.string X, .int .i64 0]) ∧ PgP 7 cs X) ∧ Below W.heap.size W w') := fun W => encodePage_P 7 cs W (by decide) (by decide) hcz.out
                by_cases hz1 : size < 0
                · clear hz0
                  go_wp2_with fail
                  refine (hE0.out _).mono ?_
                  rintro e q1 ⟨rfl, hb1⟩
                  have Hq1 : Hid (Below w.heap.size w q1) := Hk5.out.trans (hb1.mono Hk5.out.size)
                  clear hE0 hb1 Hk5
                  go_wp2_with fail
                  -- the page, of the size N
                  refine (hEP.out _).mono ?_
                  rintro e pA ⟨⟨Y, rfl, hY⟩, hbA⟩
                  have Hp1 : Hid (PgP 7 cs Y ∧ Below w.heap.size w pA) := ⟨hY, Hq1.out.trans (hbA.mono Hq1.out.size)⟩
                  clear hEP hY hbA Hq1
                  have y1 : (Y.size : Int) ≤ 268435456 := by have := Hp1.out.1.2.1; omega
                  obtain ⟨yj, hyj⟩ : ∃ j, Y.size = j + 1 := ⟨Y.size - 1, by have := Hp1.out.1.1; omega⟩
                  have hyj' : Hid (Y.size = yj + 1) := hyj
                  clear hyj
                  go_wp2_with fail
                  refine (Hp1.out.1.2.2.1 _).mono ?_
                  rintro e pB ⟨rfl, hbB⟩
                  have Hp2 : Hid (Below w.heap.size w pB) := Hp1.out.2.trans (hbB.mono Hp1.out.2.size)
                  have Hp1' : Hid (PgP 7 cs Y) := Hp1.out.1
                  clear hbB Hp1
                  obtain ⟨pC, hpC⟩ : ∃ W, pB.alloc (.cells #[.int .u8 (more % 256)] 5) = W := ⟨_, rfl⟩
                  have hcv2 := mB_conv more pB
                  rw [hpC] at hcv2
                  have Hp3 : Hid (Below w.heap.size w pC) := by rw [← hpC]; exact Hp2.out.alloc Hp2.out.size _
                  have hs1 : ¬ Y.size + (mB more).size > 9223372036854775807 := by rw [mB_size]; omega
                  have K1 : Hid (∀ W, Calls Tryd.prog 10 #[.string (Y ++ mB more)] W fun e w' => e = .returned (.tuple #[.int .i64 0, .string ⟨#[]⟩, .int .i64 224]) ∧ Below W.heap.size W w') := fun W => Hp1'.out.2.2.2.1 (mB more) W (mB_ne _) (by rw [mB_size]; exact Nat.le_refl _)
                  have K2 : Hid (∀ W, Calls Tryd.prog 10 #[.string (Y.extract 0 yj)] W fun e w' => e = .returned (.tuple #[.int .i64 0, .string ⟨#[]⟩, .int .i64 224]) ∧ Below W.heap.size W w') := fun W => Hp1'.out.2.2.2.2 yj W (by have := hyj'.out; omega)
                  go_wp2_with fail
                  refine (K1.out _).mono ?_
                  rintro e pD ⟨rfl, hbD⟩
                  have Hp4 : Hid (Below w.heap.size w pD) := Hp3.out.trans (hbD.mono Hp3.out.size)
                  clear hbD K1 Hp3 hcv2 hpC Hp2
                  have hyj := hyj'.out
                  have ysub : wrap64 ((Y.size : Int) - 1) = (yj : Int) := by unfold wrap64; omega
                  have yle : yj ≤ Y.size := by omega
                  go_wp2_with fail
                  refine (K2.out _).mono ?_
                  rintro e pE ⟨rfl, hbE⟩
                  have Hp5 : Hid (Below w.heap.size w pE) := Hp4.out.trans (hbE.mono Hp4.out.size)
                  clear hbE K2 Hp4 ysub yle hyj
                  go_wp2_with fail
                  go_ret
                  exact ⟨rfl, Hp5.out⟩
                · have hz2 : 2147483647 < size := by omega
                  clear hz0
                  go_wp2_with fail
                  refine (hE0.out _).mono ?_
                  rintro e q1 ⟨rfl, hb1⟩
                  have Hq1 : Hid (Below w.heap.size w q1) := Hk5.out.trans (hb1.mono Hk5.out.size)
                  clear hE0 hb1 Hk5
                  go_wp2_with fail
                  -- the page, of the size N
                  refine (hEP.out _).mono ?_
                  rintro e pA ⟨⟨Y, rfl, hY⟩, hbA⟩
                  have Hp1 : Hid (PgP 7 cs Y ∧ Below w.heap.size w pA) := ⟨hY, Hq1.out.trans (hbA.mono Hq1.out.size)⟩
                  clear hEP hY hbA Hq1
                  have y1 : (Y.size : Int) ≤ 268435456 := by have := Hp1.out.1.2.1; omega
                  obtain ⟨yj, hyj⟩ : ∃ j, Y.size = j + 1 := ⟨Y.size - 1, by have := Hp1.out.1.1; omega⟩
                  have hyj' : Hid (Y.size = yj + 1) := hyj
                  clear hyj
                  go_wp2_with fail
                  refine (Hp1.out.1.2.2.1 _).mono ?_
                  rintro e pB ⟨rfl, hbB⟩
                  have Hp2 : Hid (Below w.heap.size w pB) := Hp1.out.2.trans (hbB.mono Hp1.out.2.size)
                  have Hp1' : Hid (PgP 7 cs Y) := Hp1.out.1
                  clear hbB Hp1
                  obtain ⟨pC, hpC⟩ : ∃ W, pB.alloc (.cells #[.int .u8 (more % 256)] 5) = W := ⟨_, rfl⟩
                  have hcv2 := mB_conv more pB
                  rw [hpC] at hcv2
                  have Hp3 : Hid (Below w.heap.size w pC) := by rw [← hpC]; exact Hp2.out.alloc Hp2.out.size _
                  have hs1 : ¬ Y.size + (mB more).size > 9223372036854775807 := by rw [mB_size]; omega
                  have K1 : Hid (∀ W, Calls Tryd.prog 10 #[.string (Y ++ mB more)] W fun e w' => e = .returned (.tuple #[.int .i64 0, .string ⟨#[]⟩, .int .i64 224]) ∧ Below W.heap.size W w') := fun W => Hp1'.out.2.2.2.1 (mB more) W (mB_ne _) (by rw [mB_size]; exact Nat.le_refl _)
                  have K2 : Hid (∀ W, Calls Tryd.prog 10 #[.string (Y.extract 0 yj)] W fun e w' => e = .returned (.tuple #[.int .i64 0, .string ⟨#[]⟩, .int .i64 224]) ∧ Below W.heap.size W w') := fun W => Hp1'.out.2.2.2.2 yj W (by have := hyj'.out; omega)
                  go_wp2_with fail
                  refine (K1.out _).mono ?_
                  rintro e pD ⟨rfl, hbD⟩
                  have Hp4 : Hid (Below w.heap.size w pD) := Hp3.out.trans (hbD.mono Hp3.out.size)
                  clear hbD K1 Hp3 hcv2 hpC Hp2
                  have hyj := hyj'.out
                  have ysub : wrap64 ((Y.size : Int) - 1) = (yj : Int) := by unfold wrap64; omega
                  have yle : yj ≤ Y.size := by omega
                  go_wp2_with fail
                  refine (K2.out _).mono ?_
                  rintro e pE ⟨rfl, hbE⟩
                  have Hp5 : Hid (Below w.heap.size w pE) := Hp4.out.trans (hbE.mono Hp4.out.size)
                  clear hbE K2 Hp4 ysub yle hyj
                  go_wp2_with fail
                  go_ret
                  exact ⟨rfl, Hp5.out⟩
              · have hz1 : ¬ size < 0 := by omega
                have hz2 : ¬ 2147483647 < size := by omega
                have hEP : Hid (∀ W, Calls Tryd.prog 9 #[.int .i64 size, .string cs] W fun e w' => (∃ X, e = .returned (.tuple #[.string X, .int .i64 0]) ∧ PgP size cs X) ∧ Below W.heap.size W w') := fun W => encodePage_P size cs W (by omega) (by omega) hcz.out
                clear hz0
                go_wp2_with fail
                -- the page, of the size N
                refine (hEP.out _).mono ?_
                rintro e pA ⟨⟨Y, rfl, hY⟩, hbA⟩
                have Hp1 : Hid (PgP size cs Y ∧ Below w.heap.size w pA) := ⟨hY, Hk5.out.trans (hbA.mono Hk5.out.size)⟩
                clear hEP hY hbA Hk5
                have y1 : (Y.size : Int) ≤ 268435456 := by have := Hp1.out.1.2.1; omega
                obtain ⟨yj, hyj⟩ : ∃ j, Y.size = j + 1 := ⟨Y.size - 1, by have := Hp1.out.1.1; omega⟩
                have hyj' : Hid (Y.size = yj + 1) := hyj
                clear hyj
                go_wp2_with fail
                refine (Hp1.out.1.2.2.1 _).mono ?_
                rintro e pB ⟨rfl, hbB⟩
                have Hp2 : Hid (Below w.heap.size w pB) := Hp1.out.2.trans (hbB.mono Hp1.out.2.size)
                have Hp1' : Hid (PgP size cs Y) := Hp1.out.1
                clear hbB Hp1
                obtain ⟨pC, hpC⟩ : ∃ W, pB.alloc (.cells #[.int .u8 (more % 256)] 5) = W := ⟨_, rfl⟩
                have hcv2 := mB_conv more pB
                rw [hpC] at hcv2
                have Hp3 : Hid (Below w.heap.size w pC) := by rw [← hpC]; exact Hp2.out.alloc Hp2.out.size _
                have hs1 : ¬ Y.size + (mB more).size > 9223372036854775807 := by rw [mB_size]; omega
                have K1 : Hid (∀ W, Calls Tryd.prog 10 #[.string (Y ++ mB more)] W fun e w' => e = .returned (.tuple #[.int .i64 0, .string ⟨#[]⟩, .int .i64 224]) ∧ Below W.heap.size W w') := fun W => Hp1'.out.2.2.2.1 (mB more) W (mB_ne _) (by rw [mB_size]; exact Nat.le_refl _)
                have K2 : Hid (∀ W, Calls Tryd.prog 10 #[.string (Y.extract 0 yj)] W fun e w' => e = .returned (.tuple #[.int .i64 0, .string ⟨#[]⟩, .int .i64 224]) ∧ Below W.heap.size W w') := fun W => Hp1'.out.2.2.2.2 yj W (by have := hyj'.out; omega)
                go_wp2_with fail
                refine (K1.out _).mono ?_
                rintro e pD ⟨rfl, hbD⟩
                have Hp4 : Hid (Below w.heap.size w pD) := Hp3.out.trans (hbD.mono Hp3.out.size)
                clear hbD K1 Hp3 hcv2 hpC Hp2
                have hyj := hyj'.out
                have ysub : wrap64 ((Y.size : Int) - 1) = (yj : Int) := by unfold wrap64; omega
                have yle : yj ≤ Y.size := by omega
                go_wp2_with fail
                refine (K2.out _).mono ?_
                rintro e pE ⟨rfl, hbE⟩
                have Hp5 : Hid (Below w.heap.size w pE) := Hp4.out.trans (hbE.mono Hp4.out.size)
                clear hbE K2 Hp4 ysub yle hyj
                go_wp2_with fail
                go_ret
                exact ⟨rfl, Hp5.out⟩
            · obtain ⟨hA, rfl⟩ := hx
              rw [hA]
              have H4 : Hid (Below w.heap.size w w4) := HK.out.2.1.trans (hb4.mono HK.out.2.1.size)
              clear hA hb4 hEK HK
              go_wp2_with fail
              obtain ⟨w5, hw5⟩ : ∃ W, w4.alloc (.cells #[] 25) = W := ⟨_, rfl⟩
              rw [hw5]
              have H5 : Hid (Below w.heap.size w w5) := by rw [← hw5]; exact H4.out.alloc H4.out.size _
              refine (hE0.out w5 _).mono ?_
              rintro e w6 ⟨⟨X, rfl, hX⟩, hb6⟩
              have HX : Hid (KyP [] X ∧ Below w.heap.size w w6 ∧ GRow 3 kyV w6 none [] ∧ ([] : List Ky).length ≤ 1000) := ⟨hX, H5.out.trans (hb6.mono H5.out.size), GRow.nil _ _ _ _, Nat.zero_le _⟩
              clear hX hb6 hE0 H4 H5 hw5
              -- the keys read back
              have x1 : (X.size : Int) ≤ 268435456 := by have := HX.out.1.2.1; omega
              have x0 : (X.toList == []) = false := ne_nil (HX.out.1.1)
              obtain ⟨xj, hxj⟩ : ∃ j, X.size = j + 1 := ⟨X.size - 1, by have := HX.out.1.1; omega⟩
              have hxj' : Hid (X.size = xj + 1) := hxj
              clear hxj
              go_wp2_with fail
              refine (HX.out.1.2.2.1 _).mono ?_
              rintro e kA ⟨⟨vl, rfl, hvl⟩, hbA⟩
              obtain ⟨la, lc, rfl, _, _, hlr⟩ := hvl.row kyV_len
              have Hk1 : Hid (Below w.heap.size w kA) := HX.out.2.1.trans (hbA.mono HX.out.2.1.size)
              have hSK : Hid (Calls Tryd.prog 8 #[.slice la ([] : List Ky).length lc, .slice none ([] : List Ky).length 0] kA fun r w' => r = .returned (.bool true) ∧ Below kA.heap.size kA w') := sameKeys_any ([] : List Ky) la none lc 0 kA HX.out.2.2.2 hlr (HX.out.2.2.1.below kyV_len hbA)
              have HX' : Hid (KyP ([] : List Ky) X) := HX.out.1
              clear hvl hlr hbA HX
              go_wp2_with fail
              refine hSK.out.mono ?_
              rintro e kB ⟨rfl, hbB⟩
              have Hk2 : Hid (Below w.heap.size w kB) := Hk1.out.trans (hbB.mono Hk1.out.size)
              clear hbB hSK Hk1 x0
              obtain ⟨kC, hkC⟩ : ∃ W, kB.alloc (.cells #[.int .u8 (more % 256)] 5) = W := ⟨_, rfl⟩
              have hcv1 := mB_conv more kB
              rw [hkC] at hcv1
              have Hk3 : Hid (Below w.heap.size w kC) := by rw [← hkC]; exact Hk2.out.alloc Hk2.out.size _
              have hs0 : ¬ X.size + (mB more).size > 9223372036854775807 := by rw [mB_size]; omega
              have K1 : Hid (∀ W, Calls Tryd.prog 7 #[.string (X ++ mB more)] W fun e w' => e = .returned (.tuple #[.slice none 0 0, .int .i64 224]) ∧ Below W.heap.size W w') := fun W => HX'.out.2.2.2.1 (mB more) W (mB_ne _) (by rw [mB_size]; exact Nat.le_refl _)
              have K2 : Hid (∀ W, Calls Tryd.prog 7 #[.string (X.extract 0 xj)] W fun e w' => e = .returned (.tuple #[.slice none 0 0, .int .i64 224]) ∧ Below W.heap.size W w') := fun W => HX'.out.2.2.2.2 xj W (by have := hxj'.out; omega)
              go_wp2_with fail
              refine (K1.out _).mono ?_
              rintro e kD ⟨rfl, hbD⟩
              have Hk4 : Hid (Below w.heap.size w kD) := Hk3.out.trans (hbD.mono Hk3.out.size)
              clear hbD K1 Hk3 hcv1 hkC Hk2 hs0
              have hxj := hxj'.out
              have xsub : wrap64 ((X.size : Int) - 1) = (xj : Int) := by unfold wrap64; omega
              have xle : xj ≤ X.size := by omega
              go_wp2_with fail
              refine (K2.out _).mono ?_
              rintro e kE ⟨rfl, hbE⟩
              have Hk5 : Hid (Below w.heap.size w kE) := Hk4.out.trans (hbE.mono Hk4.out.size)
              clear hbE K2 Hk4 xsub xle hxj HX' hxj' x1
              -- the two kinds of size
              have hcz : Hid (cs.size ≤ 65536) := HC
              by_cases hz0 : size < 0 ∨ 2147483647 < size
              · have hE0 : Hid (∀ W, Calls Tryd.prog 9 #[.int .i64 size, .string cs] W fun e w' => e = .returned (.tuple #[.string ⟨#[]⟩, .int .i64 224]) ∧ Below W.heap.size W w') := fun W => encodePage_no size cs W hz0
                have hEP : Hid (∀ W, Calls Tryd.prog 9 #[.int .i64 7, .string cs] W fun e w' => (∃ X, e = .returned (.tuple #[.string X, .int .i64 0]) ∧ PgP 7 cs X) ∧ Below W.heap.size W w') := fun W => encodePage_P 7 cs W (by decide) (by decide) hcz.out
                by_cases hz1 : size < 0
                · clear hz0
                  go_wp2_with fail
                  refine (hE0.out _).mono ?_
                  rintro e q1 ⟨rfl, hb1⟩
                  have Hq1 : Hid (Below w.heap.size w q1) := Hk5.out.trans (hb1.mono Hk5.out.size)
                  clear hE0 hb1 Hk5
                  go_wp2_with fail
                  -- the page, of the size N
                  refine (hEP.out _).mono ?_
                  rintro e pA ⟨⟨Y, rfl, hY⟩, hbA⟩
                  have Hp1 : Hid (PgP 7 cs Y ∧ Below w.heap.size w pA) := ⟨hY, Hq1.out.trans (hbA.mono Hq1.out.size)⟩
                  clear hEP hY hbA Hq1
                  have y1 : (Y.size : Int) ≤ 268435456 := by have := Hp1.out.1.2.1; omega
                  obtain ⟨yj, hyj⟩ : ∃ j, Y.size = j + 1 := ⟨Y.size - 1, by have := Hp1.out.1.1; omega⟩
                  have hyj' : Hid (Y.size = yj + 1) := hyj
                  clear hyj
                  go_wp2_with fail
                  refine (Hp1.out.1.2.2.1 _).mono ?_
                  rintro e pB ⟨rfl, hbB⟩
                  have Hp2 : Hid (Below w.heap.size w pB) := Hp1.out.2.trans (hbB.mono Hp1.out.2.size)
                  have Hp1' : Hid (PgP 7 cs Y) := Hp1.out.1
                  clear hbB Hp1
                  obtain ⟨pC, hpC⟩ : ∃ W, pB.alloc (.cells #[.int .u8 (more % 256)] 5) = W := ⟨_, rfl⟩
                  have hcv2 := mB_conv more pB
                  rw [hpC] at hcv2
                  have Hp3 : Hid (Below w.heap.size w pC) := by rw [← hpC]; exact Hp2.out.alloc Hp2.out.size _
                  have hs1 : ¬ Y.size + (mB more).size > 9223372036854775807 := by rw [mB_size]; omega
                  have K1 : Hid (∀ W, Calls Tryd.prog 10 #[.string (Y ++ mB more)] W fun e w' => e = .returned (.tuple #[.int .i64 0, .string ⟨#[]⟩, .int .i64 224]) ∧ Below W.heap.size W w') := fun W => Hp1'.out.2.2.2.1 (mB more) W (mB_ne _) (by rw [mB_size]; exact Nat.le_refl _)
                  have K2 : Hid (∀ W, Calls Tryd.prog 10 #[.string (Y.extract 0 yj)] W fun e w' => e = .returned (.tuple #[.int .i64 0, .string ⟨#[]⟩, .int .i64 224]) ∧ Below W.heap.size W w') := fun W => Hp1'.out.2.2.2.2 yj W (by have := hyj'.out; omega)
                  go_wp2_with fail
                  refine (K1.out _).mono ?_
                  rintro e pD ⟨rfl, hbD⟩
                  have Hp4 : Hid (Below w.heap.size w pD) := Hp3.out.trans (hbD.mono Hp3.out.size)
                  clear hbD K1 Hp3 hcv2 hpC Hp2
                  have hyj := hyj'.out
                  have ysub : wrap64 ((Y.size : Int) - 1) = (yj : Int) := by unfold wrap64; omega
                  have yle : yj ≤ Y.size := by omega
                  go_wp2_with fail
                  refine (K2.out _).mono ?_
                  rintro e pE ⟨rfl, hbE⟩
                  have Hp5 : Hid (Below w.heap.size w pE) := Hp4.out.trans (hbE.mono Hp4.out.size)
                  clear hbE K2 Hp4 ysub yle hyj
                  go_wp2_with fail
                  go_ret
                  exact ⟨rfl, Hp5.out⟩
                · have hz2 : 2147483647 < size := by omega
                  clear hz0
                  go_wp2_with fail
                  refine (hE0.out _).mono ?_
                  rintro e q1 ⟨rfl, hb1⟩
                  have Hq1 : Hid (Below w.heap.size w q1) := Hk5.out.trans (hb1.mono Hk5.out.size)
                  clear hE0 hb1 Hk5
                  go_wp2_with fail
                  -- the page, of the size N
                  refine (hEP.out _).mono ?_
                  rintro e pA ⟨⟨Y, rfl, hY⟩, hbA⟩
                  have Hp1 : Hid (PgP 7 cs Y ∧ Below w.heap.size w pA) := ⟨hY, Hq1.out.trans (hbA.mono Hq1.out.size)⟩
                  clear hEP hY hbA Hq1
                  have y1 : (Y.size : Int) ≤ 268435456 := by have := Hp1.out.1.2.1; omega
                  obtain ⟨yj, hyj⟩ : ∃ j, Y.size = j + 1 := ⟨Y.size - 1, by have := Hp1.out.1.1; omega⟩
                  have hyj' : Hid (Y.size = yj + 1) := hyj
                  clear hyj
                  go_wp2_with fail
                  refine (Hp1.out.1.2.2.1 _).mono ?_
                  rintro e pB ⟨rfl, hbB⟩
                  have Hp2 : Hid (Below w.heap.size w pB) := Hp1.out.2.trans (hbB.mono Hp1.out.2.size)
                  have Hp1' : Hid (PgP 7 cs Y) := Hp1.out.1
                  clear hbB Hp1
                  obtain ⟨pC, hpC⟩ : ∃ W, pB.alloc (.cells #[.int .u8 (more % 256)] 5) = W := ⟨_, rfl⟩
                  have hcv2 := mB_conv more pB
                  rw [hpC] at hcv2
                  have Hp3 : Hid (Below w.heap.size w pC) := by rw [← hpC]; exact Hp2.out.alloc Hp2.out.size _
                  have hs1 : ¬ Y.size + (mB more).size > 9223372036854775807 := by rw [mB_size]; omega
                  have K1 : Hid (∀ W, Calls Tryd.prog 10 #[.string (Y ++ mB more)] W fun e w' => e = .returned (.tuple #[.int .i64 0, .string ⟨#[]⟩, .int .i64 224]) ∧ Below W.heap.size W w') := fun W => Hp1'.out.2.2.2.1 (mB more) W (mB_ne _) (by rw [mB_size]; exact Nat.le_refl _)
                  have K2 : Hid (∀ W, Calls Tryd.prog 10 #[.string (Y.extract 0 yj)] W fun e w' => e = .returned (.tuple #[.int .i64 0, .string ⟨#[]⟩, .int .i64 224]) ∧ Below W.heap.size W w') := fun W => Hp1'.out.2.2.2.2 yj W (by have := hyj'.out; omega)
                  go_wp2_with fail
                  refine (K1.out _).mono ?_
                  rintro e pD ⟨rfl, hbD⟩
                  have Hp4 : Hid (Below w.heap.size w pD) := Hp3.out.trans (hbD.mono Hp3.out.size)
                  clear hbD K1 Hp3 hcv2 hpC Hp2
                  have hyj := hyj'.out
                  have ysub : wrap64 ((Y.size : Int) - 1) = (yj : Int) := by unfold wrap64; omega
                  have yle : yj ≤ Y.size := by omega
                  go_wp2_with fail
                  refine (K2.out _).mono ?_
                  rintro e pE ⟨rfl, hbE⟩
                  have Hp5 : Hid (Below w.heap.size w pE) := Hp4.out.trans (hbE.mono Hp4.out.size)
                  clear hbE K2 Hp4 ysub yle hyj
                  go_wp2_with fail
                  go_ret
                  exact ⟨rfl, Hp5.out⟩
              · have hz1 : ¬ size < 0 := by omega
                have hz2 : ¬ 2147483647 < size := by omega
                have hEP : Hid (∀ W, Calls Tryd.prog 9 #[.int .i64 size, .string cs] W fun e w' => (∃ X, e = .returned (.tuple #[.string X, .int .i64 0]) ∧ PgP size cs X) ∧ Below W.heap.size W w') := fun W => encodePage_P size cs W (by omega) (by omega) hcz.out
                clear hz0
                go_wp2_with fail
                -- the page, of the size N
                refine (hEP.out _).mono ?_
                rintro e pA ⟨⟨Y, rfl, hY⟩, hbA⟩
                have Hp1 : Hid (PgP size cs Y ∧ Below w.heap.size w pA) := ⟨hY, Hk5.out.trans (hbA.mono Hk5.out.size)⟩
                clear hEP hY hbA Hk5
                have y1 : (Y.size : Int) ≤ 268435456 := by have := Hp1.out.1.2.1; omega
                obtain ⟨yj, hyj⟩ : ∃ j, Y.size = j + 1 := ⟨Y.size - 1, by have := Hp1.out.1.1; omega⟩
                have hyj' : Hid (Y.size = yj + 1) := hyj
                clear hyj
                go_wp2_with fail
                refine (Hp1.out.1.2.2.1 _).mono ?_
                rintro e pB ⟨rfl, hbB⟩
                have Hp2 : Hid (Below w.heap.size w pB) := Hp1.out.2.trans (hbB.mono Hp1.out.2.size)
                have Hp1' : Hid (PgP size cs Y) := Hp1.out.1
                clear hbB Hp1
                obtain ⟨pC, hpC⟩ : ∃ W, pB.alloc (.cells #[.int .u8 (more % 256)] 5) = W := ⟨_, rfl⟩
                have hcv2 := mB_conv more pB
                rw [hpC] at hcv2
                have Hp3 : Hid (Below w.heap.size w pC) := by rw [← hpC]; exact Hp2.out.alloc Hp2.out.size _
                have hs1 : ¬ Y.size + (mB more).size > 9223372036854775807 := by rw [mB_size]; omega
                have K1 : Hid (∀ W, Calls Tryd.prog 10 #[.string (Y ++ mB more)] W fun e w' => e = .returned (.tuple #[.int .i64 0, .string ⟨#[]⟩, .int .i64 224]) ∧ Below W.heap.size W w') := fun W => Hp1'.out.2.2.2.1 (mB more) W (mB_ne _) (by rw [mB_size]; exact Nat.le_refl _)
                have K2 : Hid (∀ W, Calls Tryd.prog 10 #[.string (Y.extract 0 yj)] W fun e w' => e = .returned (.tuple #[.int .i64 0, .string ⟨#[]⟩, .int .i64 224]) ∧ Below W.heap.size W w') := fun W => Hp1'.out.2.2.2.2 yj W (by have := hyj'.out; omega)
                go_wp2_with fail
                refine (K1.out _).mono ?_
                rintro e pD ⟨rfl, hbD⟩
                have Hp4 : Hid (Below w.heap.size w pD) := Hp3.out.trans (hbD.mono Hp3.out.size)
                clear hbD K1 Hp3 hcv2 hpC Hp2
                have hyj := hyj'.out
                have ysub : wrap64 ((Y.size : Int) - 1) = (yj : Int) := by unfold wrap64; omega
                have yle : yj ≤ Y.size := by omega
                go_wp2_with fail
                refine (K2.out _).mono ?_
                rintro e pE ⟨rfl, hbE⟩
                have Hp5 : Hid (Below w.heap.size w pE) := Hp4.out.trans (hbE.mono Hp4.out.size)
                clear hbE K2 Hp4 ysub yle hyj
                go_wp2_with fail
                go_ret
                exact ⟨rfl, Hp5.out⟩
end Vr
end Go.Proofs.YtoknbicfbeocbaaDoor
