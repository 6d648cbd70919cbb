import Derived.Test.YtddkefjcpgdomabFrStep1
namespace Go.Proofs.Ytddkefjcpgdomab
open Go.RowKit
open FrMath (Hdr lb bd within Out ends cut Cut)

/-- A row of bytes that may be written, whatever they are. -/
def URow (W : World) (b n : Nat) : Prop := ∀ j, j < n → ∃ z : Int, W.cell? ⟨b, j, none⟩ = some (.int .u8 z) ∧ W.frozen? ⟨b, j, none⟩ = false
theorem URow.set {W : World} {b n : Nat} (h : URow W b n) (k : Nat) (y : Int) : URow (W.setCell ⟨b, k, none⟩ (.int .u8 y)) b n := by
  intro j hj
  obtain ⟨z, h1, h2⟩ := h j hj
  rw [World.frozen?_setCell]
  by_cases e : k = j
  · subst e
    exact ⟨y, World.cell?_setCell_same W _ _ h1, h2⟩
  · exact ⟨z, by rw [World.cell?_setCell_other W _ _ _ (by intro hh; injection hh with _ h2 _; exact e h2)]; exact h1, h2⟩
theorem URow.of {W : World} {b : Nat} {l : List UInt8} (h : BRow W b l) : URow W b l.length := fun j hj => ⟨_, (h j hj).1, (h j hj).2⟩

abbrev spare : ByteArray := ⟨#[48, 1, 7, 49, 32, 97, 110, 100, 32, 109, 111, 114, 101]⟩

set_option maxHeartbeats 1000000 in
/-- A step that feeds. -/
theorem step_feed (fb gb : Nat) (lim : Int) (b : List UInt8) (v : Value) (w : World) (H : Nat) (c : ByteArray) (cl bc : List UInt8) (hcl : c.data.toList = cl) (hbc : b ++ cl = bc) (s : FSt fb lim b v w H) (hR : Cells w gb (rfL lim (S b) (Cut lim b).ms.length)) (hfg : fb ≠ gb) (hvg : v.ownBlock ≠ some gb) (hH : H ≤ w.heap.size) (hsz : bc.length ≤ 4194304) :
    Calls Try.prog 17 #[.pointer (some ⟨fb, 0, none⟩), .pointer (some ⟨gb, 0, none⟩), .agg #[.int .i64 1, .string c]] w fun e w' => e = .returned (.bool true) ∧ ∃ v', FSt fb lim bc v' w' H ∧ Cells w' gb (rfL lim (S bc) (Cut lim bc).ms.length) ∧ Fresh v v' w ∧ Below 0 w w' ∧ ∀ x, x < w.heap.size → x ≠ fb → x ≠ gb → v.ownBlock ≠ some x → w'.heap[x]? = w.heap[x]? := by
  have hfb : fb < w.heap.size := s.lt
  have hgb : gb < w.heap.size := hR.lt
  have hcs : cl.length = c.size := by rw [← hcl, size_l]
  have hbl : bc.length = b.length + c.size := by rw [← hbc, List.length_append, hcs]
  have hc1 : c.size ≤ 4194304 := by omega
  obtain ⟨F, hF⟩ : ∃ F, c ++ spare = F := ⟨_, rfl⟩
  have hFl : F.data.toList = cl ++ spare.data.toList := by rw [← hF, app_l, hcl]
  have hFs : F.size = c.size + 13 := by rw [← hF, ByteArray.size_append]; rfl
  obtain ⟨W1, cap, hcv, hb1, hn1, hrow, hcc, hcap⟩ := conv_row (w.alloc (.cells #[.int .i64 1, .string c] 50)) F (by omega)
  have hna : (w.alloc (.cells #[.int .i64 1, .string c] 50)).heap.size = w.heap.size + 1 := by simp
  rw [hna] at hcv hb1 hn1 hrow
  have BA : Below w.heap.size w W1 := ((Below.refl _ _).alloc (Nat.le_refl _) _).trans (hb1.mono (by omega))
  have o1 : W1.cell? ⟨w.heap.size, 1, none⟩ = some (.string c) := by
    rw [World.cell?_of_block (w := w.alloc (.cells #[.int .i64 1, .string c] 50)) (hb1.block w.heap.size (by omega))]
    simp [go_sem]
  have s1 : FSt fb lim b v W1 H := s.of (BA.block fb hfb) (fun x hx => BA.block x (s.high x hx).2) BA.size
  have R1 : Cells W1 gb (rfL lim (S b) (Cut lim b).ms.length) := hR.of_block (BA.block gb hgb)
  have hSa : S b ++ c = S bc := by rw [← hbc]; apply S_eq; rw [app_l, S_l, hcl]
  have hkl : (Cut lim b).ms.length ≤ (Cut lim bc).ms.length := by
    by_cases he : (Cut lim b).er = 0
    · rw [← hbc, Cut_ok_app lim b cl he]; simp [FrMath.ahead]
    · rw [← hbc, Cut_er_app lim b cl he]; exact Nat.le_refl _
  have HR : Hid (Calls Try.prog 29 #[.pointer (some ⟨gb, 0, none⟩), .string c] W1 fun e w' => (∃ nv, e = .returned (.tuple #[nv, .int .i64 ((Cut lim bc).er : Int)]) ∧ PartS w' W1.heap.size nv (Cut lim b).ms.length (Cut lim bc).ms) ∧ Cells w' gb (rfL lim (S bc) (Cut lim bc).ms.length) ∧ Below 0 W1 w' ∧ ∀ x, x < W1.heap.size → x ≠ gb → w'.heap[x]? = W1.heap[x]?) := by
    have h := refFeed_any gb lim (S b) c (S bc) _ W1 R1 hSa (by rw [S_size]; exact hsz) (by rw [S_l]; exact hkl)
    rw [S_l] at h
    exact h
  have hml : (Cut lim bc).ms.length ≤ 4194304 := by have := cut_ms_le lim bc; omega
  have i0 : (0 : Int) ≤ (c.size : Int) := Int.natCast_nonneg _
  have i1 : (c.size : Int) ≤ (cap : Int) := Int.ofNat_le.2 (by omega)
  have i2 : c.size ≤ cap := by omega
  have hcc' : Hid (c.size + 13 ≤ cap) := by unfold Hid; omega
  have hcap' : Hid (cap ≤ 9223372036854775807) := hcap
  have hF' : c ++ (⟨#[48, 1, 7, 49, 32, 97, 110, 100, 32, 109, 111, 114, 101]⟩ : ByteArray) = F := hF
  have hsz' : Hid (b.length + cl.length ≤ 4194304) := by unfold Hid; omega
  have hw1 : Hid (W1.heap.size = w.heap.size + 2) := by unfold Hid; omega
  have hFl' : Hid (F.data.toList = cl ++ spare.data.toList) := hFl
  have hfB : Hid (F.size = c.size + 13) := hFs
  have f0 : (0 : Int) ≤ (F.size : Int) := Int.natCast_nonneg _
  have hcl' : Hid (c.data.toList = cl) := hcl
  have hbc' : Hid (b ++ cl = bc) := hbc
  have hlw : Hid (cl.length = c.size) := hcs
  have hSF : Hid (S F.data.toList = F) := S_of F
  have hrow' : Hid (BRow W1 (w.heap.size + 1) F.data.toList) := hrow
  clear hcc hcap hF R1 hSa hb1 hna hcs hR hbl hFl hFs hcl hbc hrow
  go_enter Try.func17, Try.ntmps17
  go_wp2_with fail
  refine HR.out.mono ?_
  rintro r w2 ⟨⟨nv, rfl, hpart⟩, R2, Z2, hk2⟩
  have hn2 := Z2.size
  have N1 := hw1.out
  have o2 : w2.cell? ⟨w.heap.size, 1, none⟩ = some (.string c) := by rw [World.cell?_of_block (w := W1) (hk2 w.heap.size (by omega) (by omega))]; exact o1
  have s2 : FSt fb lim b v w2 H := s1.of (hk2 fb (by omega) hfg) (fun x hx => hk2 x (by have := (s.high x hx).2; omega) (fun hh => hvg (by rw [← hh]; exact hx))) hn2
  have row2 : BRow w2 (w.heap.size + 1) F.data.toList := hrow'.out.alike (hk2 (w.heap.size + 1) (by omega) (by omega))
  have hck : Chk w2 (w.heap.size + 1) 0 cl := fun j hj => by
    have hj' : j < F.data.toList.length := by rw [hFl'.out, List.length_append]; omega
    have h1 := (row2 j hj').1
    rw [Nat.zero_add, h1]
    have h2 : F.data.toList[j] = cl[j] := by
      simp only [hFl'.out]
      exact List.getElem_append_left hj
    rw [h2]
  have HF : Hid (Calls Try.prog 10 #[.pointer (some ⟨fb, 0, none⟩), .slice (some ⟨w.heap.size + 1, 0, none⟩) c.size cap] w2 fun e w' => ∃ mv v' k, e = .returned (.tuple #[mv, .int .i64 ((Cut lim bc).er : Int)]) ∧ OwnS w' w2.heap.size mv k ∧ (Cut lim b).ms ++ k = (Cut lim bc).ms ∧ FSt fb lim bc v' w' H ∧ Fresh v v' w2 ∧ Kept fb v w2 w' ∧ (∀ x, v'.ownBlock = some x → mv.ownBlock ≠ some x)) := by
    have h := feed_fst fb lim b cl v w2 H (w.heap.size + 1) cap s2 (by omega) (by omega) (by omega) (fun hh => by have := (s.high _ hh).2; omega) hck (by rw [hlw.out]; exact i2) hcap'.out hsz'.out
    rw [hlw.out, hbc'.out] at h
    exact h
  have nvs : ∃ a c, nv = .slice a ((Cut lim bc).ms.length - (Cut lim b).ms.length) c := by
    obtain ⟨a, c, h, _⟩ := hpart
    exact ⟨a, c, h⟩
  obtain ⟨na, nc, rfl⟩ := nvs
  have hpart' : Hid (PartS w2 W1.heap.size (.slice na ((Cut lim bc).ms.length - (Cut lim b).ms.length) nc) (Cut lim b).ms.length (Cut lim bc).ms) := hpart
  have row2' : Hid (BRow w2 (w.heap.size + 1) F.data.toList) := row2
  clear hpart row2 hck s2
  go_wp2_with fail
  refine HF.out.mono ?_
  rintro r w3 ⟨mv, v3, k, rfl, hmv, happ, hs3, hfr, hkp, hap⟩
  have vnot : ∀ x, w.heap.size ≤ x → v.ownBlock ≠ some x := fun x hx hh => by have := (s.high x hh).2; omega
  have o3 : w3.cell? ⟨w.heap.size, 1, none⟩ = some (.string c) := by rw [World.cell?_of_block (w := w2) (hkp.2 w.heap.size (by omega) (by omega) (vnot _ (by omega)))]; exact o2
  have row3 : BRow w3 (w.heap.size + 1) F.data.toList := row2'.out.alike (hkp.2 (w.heap.size + 1) (by omega) (by omega) (vnot _ (by omega)))
  have hn3 : w2.heap.size ≤ w3.heap.size := hkp.1.size
  have part3 : PartS w3 W1.heap.size (.slice na ((Cut lim bc).ms.length - (Cut lim b).ms.length) nc) (Cut lim b).ms.length (Cut lim bc).ms := by
    obtain ⟨a, c, h1, h2 | ⟨g, h2, h3, h4, h5⟩⟩ := hpart'.out
    · exact ⟨a, c, h1, Or.inl h2⟩
    · refine ⟨a, c, h1, Or.inr ⟨g, h2, h3, by omega, fun j hj => ?_⟩⟩
      rw [World.cell?_of_block (w := w2) (hkp.2 g (by omega) (by omega) (vnot g (by omega)))]
      exact h5 j hj
  have hdk : (Cut lim bc).ms.drop (Cut lim b).ms.length = k := by rw [← happ, List.drop_left]
  have hkl2 : k.length ≤ 4194304 := by rw [← hdk, List.length_drop]; omega
  have HS : Hid (Calls Try.prog 15 #[mv, .slice na ((Cut lim bc).ms.length - (Cut lim b).ms.length) nc] w3 fun r w' => r = .returned (.bool true) ∧ Below w3.heap.size w3 w') := same_part k _ _ _ _ mv _ w3 hkl2 hdk hmv part3
  have hcv3 : (convert 30 9 (.slice (some ⟨w.heap.size + 1, 0, none⟩) F.size cap)).run Try.prog w3 = .ok (.string F) w3 := by
    have h := conv_back (P := Try.prog) w3 30 9 5 (w.heap.size + 1) F.size cap F.data.toList Try.underlying30 Try.underlying5 Try.underlying9 (size_l F).symm row3
    rw [hSF.out] at h
    exact h
  obtain ⟨ma, mn, mc, rfl⟩ : ∃ a n c, mv = .slice a n c := by
    obtain ⟨a, c, h⟩ := ownS_len hmv
    exact ⟨a, _, c, h⟩
  have hR3 : Cells w3 gb (rfL lim (S bc) (Cut lim bc).ms.length) := R2.of_block (hkp.2 gb (by omega) (Ne.symm hfg) hvg)
  have hk3 : ∀ x, x < w.heap.size → x ≠ fb → x ≠ gb → v.ownBlock ≠ some x → w3.heap[x]? = w.heap[x]? := fun x hx h1 h2 h3 => by
    rw [hkp.2 x (by omega) h1 h3, hk2 x (by omega) h2, BA.block x hx]
  have hfr3 : Fresh v v3 w := by
    rcases hfr with h | h
    · exact Or.inl h
    · exact Or.inr (fun x hx => by have := h x hx; omega)
  have hv3 : ∀ x, v3.ownBlock = some x → x ≠ w.heap.size + 1 := fun x hx => by
    rcases hfr with h | h
    · have := (s.high x (by rw [← h]; exact hx)).2
      omega
    · have := h x hx
      omega
  have Z3 : Hid (Below 0 w w3) := (BA.mono (Nat.zero_le _)).trans (Z2.trans (hkp.1.mono (Nat.zero_le _)))
  have hR3' : Hid (Cells w3 gb (rfL lim (S bc) (Cut lim bc).ms.length)) := hR3
  have hs3' : Hid (FSt fb lim bc v3 w3 H) := hs3
  have row3' : Hid (BRow w3 (w.heap.size + 1) F.data.toList) := row3
  have hfr' : Hid (Fresh v v3 w) := hfr3
  have hk3' : Hid (∀ x, x < w.heap.size → x ≠ fb → x ≠ gb → v.ownBlock ≠ some x → w3.heap[x]? = w.heap[x]?) := hk3
  have hv3' : Hid (∀ x, v3.ownBlock = some x → x ≠ w.heap.size + 1) := hv3
  clear hR3 hs3 row3 hfr3 hk3 hv3 part3 hdk hkl2 hap hfr happ hmv hpart' HR HF hk2 hkp vnot o1 o2 s s1 hkl hml hvg R2 Z2
  generalize (Cut lim bc).ms.length - (Cut lim b).ms.length = nl at *
  generalize (Cut lim bc).er = er at *
  go_wp2_with fail
  refine HS.out.mono ?_
  rintro r w4 ⟨rfl, hb4⟩
  go_wp2_with fail
  have hFb : F.size ≤ 4194320 := by have := hfB.out; omega
  go_loopw [13] (fun iv wr => ∃ i : Nat, i ≤ F.size ∧ iv = .int .i64 (i : Int) ∧ URow wr (w.heap.size + 1) F.size ∧ Hid (∀ x, x ≠ w.heap.size + 1 → wr.heap[x]? = w4.heap[x]?) ∧ Hid (wr.heap.size = w4.heap.size) ∧ Hid (Below 0 w4 wr)) (fun iv _ => F.size - (intOf iv).toNat)
  case atStart =>
    refine ⟨0, Nat.zero_le _, rfl, ?_, fun _ _ => rfl, rfl, Below.refl _ _⟩
    rw [← size_l F]
    exact URow.of (row3'.out.alike (hb4.block _ (by omega)))
  case round =>
    obtain ⟨i, hi, rfl, hu, hx, hxs, hz4⟩ := hrel
    by_cases hlt : i < F.size
    · obtain ⟨z, z1, z2⟩ := hu i hlt
      have j0 : (0 : Int) ≤ (i : Int) := Int.natCast_nonneg _
      have j1 : (i : Int) < (F.size : Int) := Int.ofNat_lt.2 hlt
      go_wp2_with fail
      go_roundw
      case rel =>
        refine ⟨i + 1, hlt, by simp, hu.set i _, fun x hne => ?_, ?_, Below.setCell hz4.out (Nat.zero_le _) _⟩
        · rw [Below.heap_setCell _ _ _ _ hne]
          exact hx.out x hne
        · have := hxs.out
          unfold Hid
          simp
          exact this
      case measure => simp [intOf]; omega
    · have hke : i = F.size := by omega
      subst hke
      go_wp2_with fail
      go_ret
      have hn4 := hb4.size
      have hz := hxs.out
      have h4 : ∀ x, x < w3.heap.size → x ≠ w.heap.size + 1 → wr.heap[x]? = w3.heap[x]? := fun x h1 h2 => by rw [hx.out x h2, hb4.block x h1]
      refine ⟨rfl, v3, ?_, ?_, hfr'.out, Z3.out.trans ((hb4.mono (Nat.zero_le _)).trans hz4.out), fun x h1 h2 h3 h5 => ?_⟩
      · exact hs3'.out.of (h4 fb (by omega) (by omega)) (fun x hv => h4 x (hs3'.out.high x hv).2 (hv3'.out x hv)) (by omega)
      · exact hR3'.out.of_block (h4 gb (by omega) (by omega))
      · rw [h4 x (by omega) (by omega)]
        exact hk3'.out x h1 h2 h3 h5
end Go.Proofs.Ytddkefjcpgdomab
