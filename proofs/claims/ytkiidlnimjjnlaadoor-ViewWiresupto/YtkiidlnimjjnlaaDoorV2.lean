import Derived.Test.YtkiidlnimjjnlaaDoorVX1
import Derived.Test.YtkiidlnimjjnlaaDoorChX
import Derived.Test.YtkiidlnimjjnlaaDoorBwRw
import Derived.Test.YtkiidlnimjjnlaaDoorBIX
namespace Go.Proofs.YtkiidlnimjjnlaaDoor
namespace Vr
open Go.RowKit
set_option linter.unusedVariables false

theorem step_run {P : Program} (w : World) {ops : Array Oper} {o : Oper} {a : Act} {K : Act → World → Prop} {Q : Exit → Act → World → Prop} {E : Prop} (hgd : o.guard = none) (s x : Operand) (t tn : TypeId)
    (ho : o.op = .call { callee := .builtin .append, args := #[s, x], argTypes := #[t, tn] }) (vs vx : Value) (hs : a.eval s = vs) (hx : a.eval x = vx)
    (v' : Value) (w' : World) (hr : (Builtin.append_ #[t, tn] o.type #[vs, vx]).run P w = .ok v' w') (h : K (a.put o.dst v') w') : if Region.wanted o (yielded ops a.tmps) = true then Oper.wp P o a w K Q else E := by
  have hw : Region.wanted o (yielded ops a.tmps) = true := by simp [Region.wanted, hgd]
  rw [if_pos hw]
  exact Lib.wp_append_run w s x t tn ho vs vx hs hx v' w' hr h
theorem box_apart {W : World} {q B k n : Nat} {t t' : TypeId} {cs : Array Value} {v : Value} {xs : List Value} (h : Box W q t cs) (ho : W.ownsRow B t' k v n xs) (ht : t ≠ t') : v.ownBlock ≠ some q := fun e => by
  rcases ho with ⟨_, ⟨rfl, _⟩ | ⟨g, cap, cur, rfl, _, h4, _⟩⟩
  · cases e
  · injection e with e
    subst e
    rw [show W.heap[g]? = _ from h] at h4
    injection h4 with h4
    injection h4 with _ h4 _
    exact ht h4
/-- Nodes appended, which have just been laid. -/
theorem app_nodes (W : World) (B : Nat) (v : Value) (l m : List Nd) (hown : OwnN W B v l) (hB : B ≤ W.heap.size) (hl : l.length + m.length ≤ 8000000) :
    ∃ a' c' w', (Builtin.append_ #[40, 40] 40 #[v, .slice (some ⟨W.heap.size, 0, none⟩) m.length m.length]).run Tryd.prog (W.alloc (.cells (nv m).toArray 38)) = .ok (.slice a' (l ++ m).length c') w' ∧ OwnN w' B (.slice a' (l ++ m).length c') (l ++ m) ∧ Below B W w' ∧ ∀ q t cs, t ≠ 38 → Box W q t cs → Box w' q t cs := by
  have hb : Below W.heap.size W (W.alloc (.cells (nv m).toArray 38)) := (Below.refl _ _).alloc (Nat.le_refl _) _
  have ho : GOwn 38 5 ndV (W.alloc (.cells (nv m).toArray 38)) B v l := GOwn.below (show GOwn 38 5 ndV W B v l from hown) hb
  obtain ⟨v', w', e1, o1, g1, b1⟩ := append_gen KDn (W.alloc (.cells (nv m).toArray 38)) B v l m (some ⟨W.heap.size, 0, none⟩) m.length m.length ho (g_new ndV (fun _ => rfl) W 38 m) rfl (Nat.le_trans hB hb.size) (by omega)
  obtain ⟨a', c', hv, _⟩ := o1.row (k := 5) (V := ndV) (fun _ => rfl)
  subst hv
  refine ⟨a', c', w', e1, o1, (hb.mono hB).trans b1, fun q t cs ht hq => ?_⟩
  have hq' := hq.below hb
  exact hq'.of (g1.block q hq'.lt (fun e => box_apart hq' (show World.ownsRow _ _ _ _ _ _ _ from ho) ht e.symm))
/-- What stands while the keys are written. -/
def EkI (w : World) (l : List Nd) (v : Value) (W : World) : Prop := OwnN W w.heap.size v l ∧ Below w.heap.size w W
theorem EkI.past {w W W' : World} {l : List Nd} {v : Value} (h : EkI w l v W) (hb : Below W.heap.size W W') : EkI w l v W' := ⟨ownN_below h.1 hb, h.2.trans (hb.mono h.2.size)⟩
/-- Some nodes more. -/
theorem ek_more {w W : World} {l : List Nd} {v : Value} (h : EkI w l v W) (q : Nat) (x y z : Value) (hq : Box W q 25 #[x, y, z]) (m : List Nd) (hl : l.length + m.length ≤ 8000000) :
    ∃ a' n' c' w', (Builtin.append_ #[40, 40] 40 #[v, .slice (some ⟨W.heap.size, 0, none⟩) m.length m.length]).run Tryd.prog (W.alloc (.cells (nv m).toArray 38)) = .ok (.slice a' n' c') w' ∧ EkI w (l ++ m) (.slice a' n' c') w' ∧ Box w' q 25 #[x, y, z] := by
  obtain ⟨a', c', w', e1, o1, b1, k1⟩ := app_nodes W w.heap.size v l m h.1 h.2.size hl
  exact ⟨a', _, c', w', e1, ⟨o1, h.2.trans b1⟩, k1 q _ _ (by decide) hq⟩
def allU (ks : List Ky) : Bool := ks.all (fun k => utf k.1 && utf k.2.1)
theorem flat_len : ∀ (l : List Ky), (l.flatMap kN).length ≤ 4 * l.length
  | [] => Nat.le_refl _
  | k :: l => by
    have ih := flat_len l
    rw [List.flatMap_cons, List.length_append, List.length_cons]
    have h : (kN k).length ≤ 4 := by
      unfold kN kR kV
      split <;> split <;> simp
    omega
/-- What EncodeKeys answers. -/
def EkQ (ks : List Ky) (e : Ending) : Prop := (allU ks = true ∧ ∃ X, e = .returned (.tuple #[.string X, .int .i64 0]) ∧ Wrt X (kNs ks)) ∨ (allU ks = false ∧ e = .returned (.tuple #[.string ⟨#[]⟩, .int .i64 224]))
theorem allU_bad {ks : List Ky} {i : Nat} (hi : i < ks.length) (h : (utf ks[i].1 && utf ks[i].2.1) = false) : allU ks = false := by
  unfold allU
  rw [List.all_eq_false]
  exact ⟨_, List.getElem_mem hi, by simpa using h⟩
theorem allU_all {ks : List Ky} (h : ∀ i (hi : i < ks.length), (utf ks[i].1 && utf ks[i].2.1) = true) : allU ks = true := by
  unfold allU
  rw [List.all_eq_true]
  intro k hk
  obtain ⟨i, hi, rfl⟩ := List.getElem_of_mem hk
  exact h i hi
set_option maxRecDepth 100000 in
set_option maxHeartbeats 8000000 in
theorem encodeKeys_any (ks : List Ky) (a : Option Addr) (c : Nat) (w : World) (hk : GRow 3 kyV w a ks) (hks : ∀ k ∈ ks, k.1.size ≤ 1048576 ∧ k.2.1.size ≤ 1048576) (hn : ks.length ≤ 1048576) (hwt : wts (kNs ks) ≤ 67108864) :
    Calls Tryd.prog 6 #[.slice a ks.length c] w fun e w' => EkQ ks e ∧ Below w.heap.size w w' := by
  have h1S : Hid (∀ W, Calls Tryd.prog 18 #[.int .i64 1] W fun e w' => e = .returned (.agg #[.int .i64 1, .int .i64 0, .bool true, .int .i64 16, .string ⟨#[]⟩]) ∧ Below W.heap.size W w') := fun W => sequence_any 1 W
  have hSq : Hid (∀ W, Calls Tryd.prog 18 #[.int .i64 2] W fun e w' => e = .returned (.agg #[.int .i64 2, .int .i64 0, .bool true, .int .i64 16, .string ⟨#[]⟩]) ∧ Below W.heap.size W w') := fun W => sequence_any 2 W
  have hOc : Hid (∀ W, Calls Tryd.prog 21 #[.int .i64 3] W fun e w' => e = .returned (.agg #[.int .i64 3, .int .i64 0, .bool false, .int .i64 4, .string ⟨#[]⟩]) ∧ Below W.heap.size W w') := fun W => octets_any 3 W
  have hT0 : Hid (∀ W, Calls Tryd.prog 22 #[.int .i64 0] W fun e w' => e = .returned (.agg #[.int .i64 3, .int .i64 2, .bool false, .int .i64 0, .string ⟨#[]⟩]) ∧ Below W.heap.size W w') := fun W => tagged_any 0 W
  have hT1 : Hid (∀ W, Calls Tryd.prog 22 #[.int .i64 1] W fun e w' => e = .returned (.agg #[.int .i64 3, .int .i64 2, .bool false, .int .i64 1, .string ⟨#[]⟩]) ∧ Below W.heap.size W w') := fun W => tagged_any 1 W
  have hPB : Hid (∀ W, Calls Tryd.prog 23 #[.bool true] W fun e w' => e = .returned (.string ⟨#[255]⟩) ∧ Below W.heap.size W w') := fun W => putBool_any W
  have hU : Hid (∀ (s : ByteArray) W, s.size ≤ 1048576 → Calls Tryd.prog 19 #[.string s] W fun e w' => e = .returned (.bool (utf s)) ∧ w' = W) := fun s W hs => isUTF8_any s W (Nat.le_trans hs (by unfold maxLen; decide))
  have hWr : Hid (∀ (W : World) (a : Option Addr) (c : Nat), NdRow W a (kNs ks) → Calls Tryd.prog 24 #[.slice a (kNs ks).length c] W fun e w' => (∃ X, e = .returned (.tuple #[.string X, .int .i64 0]) ∧ Wrt X (kNs ks)) ∧ Below W.heap.size W w') := fun W a c ha => written_any (ks.flatMap kN) a c W ha (chn_keys ks _ (Or.inr ⟨rfl, rfl⟩)) hwt
  have HK : Hid (GRow 3 kyV w a ks ∧ (∀ k ∈ ks, k.1.size ≤ 1048576 ∧ k.2.1.size ≤ 1048576) ∧ ks.length ≤ 1048576) := ⟨hk, hks, hn⟩
  clear hk hks hn
  go_enter Tryd.func6, Tryd.ntmps6
  go_wp2_with fail
  refine (h1S.out _).mono ?_
  rintro e w1 ⟨rfl, hb1⟩
  have H1 : Hid (EkI w (nSeq 1 :: (ks.take 0).flatMap kN) (.slice (some ⟨w1.heap.size, 0, none⟩) 1 1) (w1.alloc (.cells #[.int .i64 1, .int .i64 0, .bool true, .int .i64 16, .string ⟨#[]⟩] 38))) := by
    refine ⟨⟨rfl, Or.inr ⟨w1.heap.size, 1, _, rfl, hb1.size, heap_alloc_last _ _, Nat.le_refl _, by unfold maxLen; decide, rfl, rfl⟩⟩, hb1.alloc hb1.size _⟩
  clear h1S hb1
  go_wp2_with fail
  generalize (w1.alloc (.cells #[.int .i64 1, .int .i64 0, .bool true, .int .i64 16, .string ⟨#[]⟩] 38)) = w2 at *
  generalize w1.heap.size = g1 at *
  go_loopw [4, 11] (fun lv iv wr => ∃ (i : Nat) (za : Option Addr) (zn zc : Nat), i ≤ ks.length ∧ iv = .int .i64 (i : Int) ∧ lv = .slice za zn zc ∧ Hid (EkI w (nSeq 1 :: (ks.take i).flatMap kN) (.slice za zn zc) wr ∧ ∀ j (hj : j < ks.length), j < i → (utf ks[j].1 && utf ks[j].2.1) = true)) (fun _ iv _ => ks.length - (intOf iv).toNat)
  case atStart => exact ⟨0, _, _, _, Nat.zero_le _, rfl, rfl, H1.out, fun j _ h => by omega⟩
  case round =>
    obtain ⟨i, za, zn, zc, hi, rfl, rfl, hI⟩ := hrel
    clear H1
    have i0 : (0 : Int) ≤ (i : Int) := Int.natCast_nonneg _
    by_cases hlt : i < ks.length
    · have i1 : (i : Int) < (ks.length : Int) := Int.ofNat_lt.2 hlt
      have hnk : ks.length ≤ 1048576 := HK.out.2.2
      obtain ⟨b, off, rfl, hcs⟩ := (HK.out.1.below kyV_len hI.out.1.2) i hlt
      have d0 := hcs 0 (by omega)
      have d1 := hcs 1 (by omega)
      have d2 := hcs 2 (by omega)
      have hsz := HK.out.2.1 _ (List.getElem_mem hlt)
      have htk : nSeq 1 :: (ks.take (i + 1)).flatMap kN = (nSeq 1 :: (ks.take i).flatMap kN) ++ kN ks[i] := by
        rw [List.take_succ_eq_append_getElem hlt, List.flatMap_append]
        simp
      have hbad := allU_bad hlt
      have hpre : (utf ks[i].1 && utf ks[i].2.1) = true → ∀ j (hj : j < ks.length), j < i + 1 → (utf ks[j].1 && utf ks[j].2.1) = true := fun h j hj h2 => by
        rcases Nat.lt_or_ge j i with h3 | h3
        · exact hI.out.2 j hj h3
        · obtain rfl : j = i := by omega
          exact h
      obtain ⟨⟨d, r, v⟩, hx⟩ : ∃ k, ks[i] = k := ⟨_, rfl⟩
      rw [hx] at d0 d1 d2 hsz htk hbad hpre
      dsimp only at hsz hbad hpre
      have e0 : wr.cell? ⟨b, off + i * 3, none⟩ = some (.string d) := d0
      have e1 : wr.cell? ⟨b, off + i * 3 + 1, none⟩ = some (.string r) := d1
      have e2 : wr.cell? ⟨b, off + i * 3 + 2, none⟩ = some (.bool v) := d2
      obtain ⟨L, hL⟩ : ∃ L, nSeq 1 :: (ks.take i).flatMap kN = L := ⟨_, rfl⟩
      have hLn : L.length ≤ 4194305 := by
        have h1 := flat_len (ks.take i)
        have h2 := HK.out.2.2
        rw [← hL, List.length_cons]
        rw [List.length_take] at h1
        omega
      have F : Hid (i < ks.length ∧ nSeq 1 :: (ks.take (i + 1)).flatMap kN = L ++ kN (d, r, v) ∧ L.length ≤ 4194305 ∧ ((utf d && utf r) = false → allU ks = false) ∧ ((utf d && utf r) = true → ∀ j (hj : j < ks.length), j < i + 1 → (utf ks[j].1 && utf ks[j].2.1) = true)) := ⟨hlt, by rw [htk, hL], hLn, hbad, hpre⟩
      have hI' : Hid (EkI w L (.slice za zn zc) wr) := by have := hI.out.1; rw [hL] at this; exact this
      have u1 := hU.out d
      have u2 := hU.out r
      have U1 : Hid (∀ W, Calls Tryd.prog 19 #[.string d] W fun e w' => e = .returned (.bool (utf d)) ∧ w' = W) := fun W => u1 W hsz.1
      have U2 : Hid (∀ W, Calls Tryd.prog 19 #[.string r] W fun e w' => e = .returned (.bool (utf r)) ∧ w' = W) := fun W => u2 W hsz.2
      have hF1 : Hid (∀ W, Calls Tryd.prog 20 #[.agg #[.int .i64 3, .int .i64 0, .bool false, .int .i64 4, .string ⟨#[]⟩], .string d] W fun e w' => e = .returned (.agg #[.int .i64 3, .int .i64 0, .bool false, .int .i64 4, .string d]) ∧ Below W.heap.size W w') := fun W => filled_any (nOct 3 ⟨#[]⟩) d W
      have hF2 : Hid (∀ W, Calls Tryd.prog 20 #[.agg #[.int .i64 3, .int .i64 2, .bool false, .int .i64 0, .string ⟨#[]⟩], .string r] W fun e w' => e = .returned (.agg #[.int .i64 3, .int .i64 2, .bool false, .int .i64 0, .string r]) ∧ Below W.heap.size W w') := fun W => filled_any (nTag 0 ⟨#[]⟩) r W
      have hF3 : Hid (∀ W, Calls Tryd.prog 20 #[.agg #[.int .i64 3, .int .i64 2, .bool false, .int .i64 1, .string ⟨#[]⟩], .string ⟨#[255]⟩] W fun e w' => e = .returned (.agg #[.int .i64 3, .int .i64 2, .bool false, .int .i64 1, .string ⟨#[255]⟩]) ∧ Below W.heap.size W w') := fun W => filled_any (nTag 1 ⟨#[]⟩) ⟨#[255]⟩ W
      obtain ⟨ud, hud⟩ : ∃ b, utf d = b := ⟨_, rfl⟩
      obtain ⟨ur, hur⟩ : ∃ b, utf r = b := ⟨_, rfl⟩
      rw [hud, hur] at F
      rw [hud] at U1
      rw [hur] at U2
      obtain ⟨w3, hw3⟩ : ∃ W, wr.alloc (.cells #[.string d, .string r, .bool v] 25) = W := ⟨_, rfl⟩
      have b3 : Box w3 wr.heap.size 25 #[.string d, .string r, .bool v] := by rw [← hw3]; exact Box.new _ _ _
      have hI3 : Hid (EkI w L (.slice za zn zc) w3) := by rw [← hw3]; exact hI'.out.past ((Below.refl _ _).alloc (Nat.le_refl _) _)
      clear hI hI' d0 d1 d2 hcs hsz htk hbad hpre hx hL hLn u1 u2 hU hud hur hlt hi HK
      go_upto_region 5 with fail
      clear e0 e1 e2 hw3
      generalize wr.heap.size = q at *
      have B3 : Hid (Box w3 q 25 #[.string d, .string r, .bool v]) := b3
      have f0 : w3.cell? ⟨q, 0, none⟩ = some (.string d) := (b3.cell 0 (by simp)).1
      have f1 : w3.cell? ⟨q, 1, none⟩ = some (.string r) := (b3.cell 1 (by simp)).1
      clear b3
      go_wp2_with fail
      refine (U1.out _).mono ?_
      rintro e w4 ⟨rfl, rfl⟩
      clear U1
      cases ud with
      | false =>
        have Hf : Hid (allU ks = false ∧ Below w.heap.size w w4) := ⟨F.out.2.2.2.1 rfl, hI3.out.2⟩
        clear U2 F hI3 hWr
        go_wp2_with fail
        go_ret2
        exact ⟨Or.inr ⟨Hf.out.1, rfl⟩, Hf.out.2⟩
      | true =>
        go_wp2_with fail
        refine (U2.out _).mono ?_
        rintro e w5 ⟨rfl, rfl⟩
        clear U2
        cases ur with
        | false =>
          have Hf : Hid (allU ks = false ∧ Below w.heap.size w w5) := ⟨F.out.2.2.2.1 rfl, hI3.out.2⟩
          clear F hI3 hWr
          go_wp2_with fail
          go_ret2
          exact ⟨Or.inr ⟨Hf.out.1, rfl⟩, Hf.out.2⟩
        | true =>
          go_upto_region 7 with fail
          clear f0 f1
          have bN : Below w5.heap.size w5 w5 := Below.refl _ _
          have hK : Hid (∀ W, Below w5.heap.size w5 W → W.cell? ⟨q, 0, none⟩ = some (.string d)) := fun W hb => ((B3.out.below hb).cell 0 (by simp)).1
          have hc0 := hK.out _ bN.drew
          go_region_held3 (fun w' => w'.cell? ⟨q, 0, none⟩ = some (.string d))
            (first | exact hcG | exact hcE | exact hcC | exact hcB | exact hcA | exact hc0)
            (first
              | (go_at_call 18; refine (hSq.out _).mono ?_; rintro e xA ⟨rfl, hbA⟩; have HA : Below w5.heap.size w5 xA := (bN.drew).trans (hbA.mono (by first | exact Nat.le_refl _ | exact (bN.drew).size)); have hcA := hK.out _ HA; clear hbA hSq)
              | (go_at_call 21; refine (hOc.out _).mono ?_; rintro e xB ⟨rfl, hbB⟩; have HB : Below w5.heap.size w5 xB := (HA).trans (hbB.mono (by first | exact Nat.le_refl _ | exact (HA).size)); have hcB := hK.out _ HB; clear hbB hOc)
              | (go_at_call 20; refine (hF1.out _).mono ?_; rintro e xC ⟨rfl, hbC⟩; have HC : Below w5.heap.size w5 xC := (HB).trans (hbC.mono (by first | exact Nat.le_refl _ | exact (HB).size)); have hcC := hK.out _ HC; clear hbC hF1; have HE : Below w5.heap.size w5 (xC.alloc (.cells #[.int .i64 2, .int .i64 0, .bool true, .int .i64 16, .string ⟨#[]⟩, .int .i64 3, .int .i64 0, .bool false, .int .i64 4, .string d] 38)) := HC.alloc (HC.size) _; have hcE := hK.out _ HE; obtain ⟨ya, yn, yc, w6, e9, h9, k9⟩ := ek_more (hI3.out.past HC) q _ _ _ (B3.out.below HC) [nSeq 2, nOct 3 d] (by have := F.out.2.2.1; simp only [List.length_cons, List.length_nil]; omega); have e9' : Hid ((Builtin.append_ #[40, 40] 40 #[.slice za zn zc, .slice (some ⟨xC.heap.size, 0, none⟩) 2 2]).run Tryd.prog (xC.alloc (.cells #[.int .i64 2, .int .i64 0, .bool true, .int .i64 16, .string ⟨#[]⟩, .int .i64 3, .int .i64 0, .bool false, .int .i64 4, .string d] 38)) = .ok (.slice ya yn yc) w6) := e9; have H9 : Hid (EkI w (L ++ [nSeq 2, nOct 3 d]) (.slice ya yn yc) w6) := h9; have B9 : Hid (Box w6 q 25 #[.string d, .string r, .bool v]) := k9; clear e9 h9 k9; have hcG : w6.cell? ⟨q, 0, none⟩ = some (.string d) := (B9.out.cell 0 (by simp)).1)
              | (refine step_run _ (by rfl) _ _ _ _ (by rfl) _ _ (by rfl) (by rfl) _ _ e9'.out ?_; clear e9'))
          clear bN hK hc0 hcE hcG hcA HA hcB HB hcC HC HE hI3 B3
          obtain ⟨L6, hL6⟩ : ∃ x, L ++ [nSeq 2, nOct 3 d] = x := ⟨_, rfl⟩
          rw [hL6] at H9
          have FL6 : Hid (L ++ [nSeq 2, nOct 3 d] = L6 ∧ L6.length ≤ 4194307) := ⟨hL6, by rw [← hL6]; have := F.out.2.2.1; have := F.out.2.2.1; simp only [List.length_append, List.length_cons, List.length_nil]; omega⟩
          clear hL6
          have H6 := H9
          have B6 := B9
          clear H9 B9
          obtain ⟨xa, hxa⟩ : ∃ x, x = ya := ⟨_, rfl⟩
          obtain ⟨xc, hxc⟩ : ∃ x, x = yc := ⟨_, rfl⟩
          obtain ⟨xn, hxn⟩ : ∃ x, x = yn := ⟨_, rfl⟩
          subst hxa hxc hxn
          have f1 : w6.cell? ⟨q, 1, none⟩ = some (.string r) := (B6.out.cell 1 (by simp)).1
          have E0 : Hid (∀ x, r.toList = [] → L ++ kN (d, r, x) = L6 ++ kV x) := fun x h => by rw [← FL6.out.1]; unfold kN kR; rw [if_pos h]; simp
          have E1 : Hid (∀ x, r.toList ≠ [] → L ++ kN (d, r, x) = L6 ++ [nTag 0 r] ++ kV x) := fun x h => by rw [← FL6.out.1]; unfold kN kR; rw [if_neg h]; simp
          by_cases hr : r.toList = []
          · have hq : (r.toList == []) = true := by rw [hr]; rfl
            have R0 : Hid (r.toList = []) := hr
            clear hr
            have f2 : w6.cell? ⟨q, 2, none⟩ = some (.bool v) := (B6.out.cell 2 (by simp)).1
            cases v with
            | false =>
              go_wp2_with fail
              go_roundw
              case rel => exact ⟨i + 1, _, _, _, F.out.1, by simp, rfl, by rw [F.out.2.1, E0.out _ R0.out, show kV false = [] from rfl, List.append_nil]; exact H6.out, F.out.2.2.2.2 rfl⟩
              case measure => have := F.out.1; simp [intOf]; omega
            | true =>
              go_wp2_with fail
              refine (hT1.out _).mono ?_
              rintro e y1 ⟨rfl, hb1⟩
              have J1 : Hid (Below w6.heap.size w6 y1) := hb1
              clear hb1 hT1 f2
              go_wp2_with fail
              refine (hPB.out _).mono ?_
              rintro e y2 ⟨rfl, hb1⟩
              have J2 : Hid (Below w6.heap.size w6 y2) := J1.out.trans (hb1.mono J1.out.size)
              clear hb1 hPB J1
              go_wp2_with fail
              refine (hF3.out _).mono ?_
              rintro e y3 ⟨rfl, hb1⟩
              have J3 : Hid (Below w6.heap.size w6 y3) := J2.out.trans (hb1.mono J2.out.size)
              clear hb1 hF3 J2
              have hbd : L6.length + [nTag 1 ffB].length ≤ 8000000 := by have := FL6.out.2; simp only [List.length_cons, List.length_nil]; omega
              obtain ⟨ya, yn, yc, w9, e9, h9, k9⟩ := ek_more (H6.out.past J3.out) q _ _ _ (B6.out.below J3.out) [nTag 1 ffB] hbd
              have e9' : Hid ((Builtin.append_ #[40, 40] 40 #[.slice xa xn xc, .slice (some ⟨y3.heap.size, 0, none⟩) 1 1]).run Tryd.prog (y3.alloc (.cells #[.int .i64 3, .int .i64 2, .bool false, .int .i64 1, .string ⟨#[255]⟩] 38)) = .ok (.slice ya yn yc) w9) := e9
              have H9 : Hid (EkI w (L6 ++ [nTag 1 ffB]) (.slice ya yn yc) w9) := h9
              have B9 : Hid (Box w9 q 25 #[.string d, .string r, .bool true]) := k9
              clear e9 h9 k9
              clear hbd H6 B6 J3
              go_wp2_with (at_builtin; refine wp_app _ rfl _ _ _ rfl rfl _ _ _ _ rfl rfl e9'.out ?_; clear e9')
              go_roundw
              case rel => exact ⟨i + 1, _, _, _, F.out.1, by simp, rfl, by rw [F.out.2.1, E0.out _ R0.out, show kV true = [nTag 1 ffB] from rfl]; exact H9.out, F.out.2.2.2.2 rfl⟩
              case measure => have := F.out.1; simp [intOf]; omega
          · have hq : (r.toList == []) = false := by rw [Bool.eq_false_iff]; simpa using hr
            have R0 : Hid (r.toList ≠ []) := hr
            clear hr
            go_upto_region 9 with fail
            clear f1 hq
            have bN : Below w6.heap.size w6 w6 := Below.refl _ _
            have hK : Hid (∀ W, Below w6.heap.size w6 W → W.cell? ⟨q, 1, none⟩ = some (.string r)) := fun W hb => ((B6.out.below hb).cell 1 (by simp)).1
            have hc0 := hK.out _ bN.drew
            go_region_held3 (fun w' => w'.cell? ⟨q, 1, none⟩ = some (.string r))
              (first | exact hcG | exact hcE | exact hcB | exact hcA | exact hc0)
              (first
                | (go_at_call 22; refine (hT0.out _).mono ?_; rintro e xA ⟨rfl, hbA⟩; have HA : Below w6.heap.size w6 xA := (bN.drew).trans (hbA.mono (by first | exact Nat.le_refl _ | exact (bN.drew).size)); have hcA := hK.out _ HA; clear hbA hT0)
                | (go_at_call 20; refine (hF2.out _).mono ?_; rintro e xB ⟨rfl, hbB⟩; have HB : Below w6.heap.size w6 xB := (HA).trans (hbB.mono (by first | exact Nat.le_refl _ | exact (HA).size)); have hcB := hK.out _ HB; clear hbB hF2; have HE : Below w6.heap.size w6 (xB.alloc (.cells #[.int .i64 3, .int .i64 2, .bool false, .int .i64 0, .string r] 38)) := HB.alloc (HB.size) _; have hcE := hK.out _ HE; obtain ⟨ya, yn, yc, w7, e9, h9, k9⟩ := ek_more (H6.out.past HB) q _ _ _ (B6.out.below HB) [nTag 0 r] (by have := FL6.out.2; simp only [List.length_cons, List.length_nil]; omega); have e9' : Hid ((Builtin.append_ #[40, 40] 40 #[.slice xa xn xc, .slice (some ⟨xB.heap.size, 0, none⟩) 1 1]).run Tryd.prog (xB.alloc (.cells #[.int .i64 3, .int .i64 2, .bool false, .int .i64 0, .string r] 38)) = .ok (.slice ya yn yc) w7) := e9; have H9 : Hid (EkI w (L6 ++ [nTag 0 r]) (.slice ya yn yc) w7) := h9; have B9 : Hid (Box w7 q 25 #[.string d, .string r, .bool v]) := k9; clear e9 h9 k9; have hcG : w7.cell? ⟨q, 1, none⟩ = some (.string r) := (B9.out.cell 1 (by simp)).1)
                | (refine step_run _ (by rfl) _ _ _ _ (by rfl) _ _ (by rfl) (by rfl) _ _ e9'.out ?_; clear e9'))
            clear bN hK hc0 hcE hcG hcA HA hcB HB HE H6 B6
            obtain ⟨L7, hL7⟩ : ∃ x, L6 ++ [nTag 0 r] = x := ⟨_, rfl⟩
            rw [hL7] at H9
            have FL7 : Hid (L6 ++ [nTag 0 r] = L7 ∧ L7.length ≤ 4194308) := ⟨hL7, by rw [← hL7]; have := F.out.2.2.1; have := FL6.out.2; simp only [List.length_append, List.length_cons, List.length_nil]; omega⟩
            clear hL7
            have H7 := H9
            have B7 := B9
            clear H9 B9
            obtain ⟨xa, hxa⟩ : ∃ x, x = ya := ⟨_, rfl⟩
            obtain ⟨xc, hxc⟩ : ∃ x, x = yc := ⟨_, rfl⟩
            obtain ⟨xn, hxn⟩ : ∃ x, x = yn := ⟨_, rfl⟩
            subst hxa hxc hxn
            have E2 : Hid (∀ x, L ++ kN (d, r, x) = L7 ++ kV x) := fun x => by rw [← FL7.out.1]; exact E1.out x R0.out
            have f2 : w7.cell? ⟨q, 2, none⟩ = some (.bool v) := (B7.out.cell 2 (by simp)).1
            cases v with
            | false =>
              go_wp2_with fail
              go_roundw
              case rel => exact ⟨i + 1, _, _, _, F.out.1, by simp, rfl, by rw [F.out.2.1, E2.out _, show kV false = [] from rfl, List.append_nil]; exact H7.out, F.out.2.2.2.2 rfl⟩
              case measure => have := F.out.1; simp [intOf]; omega
            | true =>
              go_wp2_with fail
              refine (hT1.out _).mono ?_
              rintro e y1 ⟨rfl, hb1⟩
              have J1 : Hid (Below w7.heap.size w7 y1) := hb1
              clear hb1 hT1 f2
              go_wp2_with fail
              refine (hPB.out _).mono ?_
              rintro e y2 ⟨rfl, hb1⟩
              have J2 : Hid (Below w7.heap.size w7 y2) := J1.out.trans (hb1.mono J1.out.size)
              clear hb1 hPB J1
              go_wp2_with fail
              refine (hF3.out _).mono ?_
              rintro e y3 ⟨rfl, hb1⟩
              have J3 : Hid (Below w7.heap.size w7 y3) := J2.out.trans (hb1.mono J2.out.size)
              clear hb1 hF3 J2
              have hbd : L7.length + [nTag 1 ffB].length ≤ 8000000 := by have := FL7.out.2; simp only [List.length_cons, List.length_nil]; omega
              obtain ⟨ya, yn, yc, w9, e9, h9, k9⟩ := ek_more (H7.out.past J3.out) q _ _ _ (B7.out.below J3.out) [nTag 1 ffB] hbd
              have e9' : Hid ((Builtin.append_ #[40, 40] 40 #[.slice xa xn xc, .slice (some ⟨y3.heap.size, 0, none⟩) 1 1]).run Tryd.prog (y3.alloc (.cells #[.int .i64 3, .int .i64 2, .bool false, .int .i64 1, .string ⟨#[255]⟩] 38)) = .ok (.slice ya yn yc) w9) := e9
              have H9 : Hid (EkI w (L7 ++ [nTag 1 ffB]) (.slice ya yn yc) w9) := h9
              have B9 : Hid (Box w9 q 25 #[.string d, .string r, .bool true]) := k9
              clear e9 h9 k9
              clear hbd H7 B7 J3
              go_wp2_with (at_builtin; refine wp_app _ rfl _ _ _ rfl rfl _ _ _ _ rfl rfl e9'.out ?_; clear e9')
              go_roundw
              case rel => exact ⟨i + 1, _, _, _, F.out.1, by simp, rfl, by rw [F.out.2.1, E2.out _, show kV true = [nTag 1 ffB] from rfl]; exact H9.out, F.out.2.2.2.2 rfl⟩
              case measure => have := F.out.1; simp [intOf]; omega
    · have hie : i = ks.length := by omega
      subst hie
      have k1 : ¬ (ks.length : Int) < (ks.length : Int) := by omega
      have hF0 := hI.out.1
      rw [List.take_length] at hF0
      obtain ⟨ga, gc, hv, _, _, hg⟩ := GOwn.row (k := 5) (V := ndV) (fun _ => rfl) (show GOwn 38 5 ndV _ _ _ _ from hF0.1)
      injection hv with v1 v2 v3
      subst v1 v2 v3
      have HW := hWr.out wr za zc (nd_of_g hg)
      have Hf : Hid (allU ks = true ∧ Below w.heap.size w wr) := ⟨allU_all (fun j hj => hI.out.2 j hj hj), hF0.2⟩
      clear hI hF0 hg hWr HK hlt hi
      obtain ⟨nk, hnk⟩ : ∃ n, (kNs ks).length = n := ⟨_, rfl⟩
      have HW' : Hid (Calls Tryd.prog 24 #[.slice za nk zc] wr fun e w' => (∃ X, e = .returned (.tuple #[.string X, .int .i64 0]) ∧ Wrt X (kNs ks)) ∧ Below wr.heap.size wr w') := by rw [← hnk]; exact HW
      rw [show (nSeq 1 :: ks.flatMap kN).length = nk from hnk]
      clear HW hnk
      go_wp2_with fail
      refine HW'.out.mono ?_
      rintro e w4 ⟨⟨X, rfl, hX⟩, hb4⟩
      have Hg : Hid (Wrt X (kNs ks) ∧ Below w.heap.size w w4) := ⟨hX, Hf.out.2.trans (hb4.mono Hf.out.2.size)⟩
      clear HW' hX hb4
      go_wp2_with fail
      go_ret2
      exact ⟨Or.inl ⟨Hf.out.1, X, rfl, Hg.out.1⟩, Hg.out.2⟩
end Vr
end Go.Proofs.YtkiidlnimjjnlaaDoor

namespace Go.Proofs.YtkiidlnimjjnlaaDoor
namespace Vr
open Go.RowKit
open TextMath (check)
set_option linter.unusedVariables false

theorem tab_below {w w' : World} (h : RowTab w) (hb : Below w.heap.size w w') : RowTab w' := fun r c hr hc => by
  have h1 := h r c hr hc
  exact (hb.cell (World.block_lt_of_cell? w _ h1)).trans h1
set_option maxRecDepth 100000 in
theorem made_any (d : Int) (w : World) : Calls Tryd.prog 14 #[.int .i64 d] w fun r w' => r = .returned (ndA (nSeq d)) ∧ Below w.heap.size w w' := by
  go_enter Tryd.func14, Tryd.ntmps14
  go_wp2_with fail
  refine bodyPost_ret_by (v := .agg #[.int .i64 d, .int .i64 0, .bool true, .int .i64 16, .string ⟨#[]⟩]) ?_ rfl ⟨rfl, ?_⟩
  · simp [results, Tryd.results14, go_sem]
  · repeat' first | exact Below.refl _ _ | refine Below.setCell ?_ (by first | (simp; done) | (simp; omega)) _ | refine Below.alloc ?_ (by first | (simp; done) | (simp; omega)) _
set_option maxRecDepth 100000 in
theorem leaf_any (d c t : Int) (s : ByteArray) (w : World) : Calls Tryd.prog 16 #[.int .i64 d, .int .i64 c, .int .i64 t, .string s] w fun r w' => r = .returned (ndA ⟨d, c, false, t, s⟩) ∧ Below w.heap.size w w' := by
  go_enter Tryd.func16, Tryd.ntmps16
  go_wp2_with fail
  refine bodyPost_ret_by (v := .agg #[.int .i64 d, .int .i64 c, .bool false, .int .i64 t, .string s]) ?_ rfl ⟨rfl, ?_⟩
  · simp [results, Tryd.results16, go_sem]
  · repeat' first | exact Below.refl _ _ | refine Below.setCell ?_ (by first | (simp; done) | (simp; omega)) _ | refine Below.alloc ?_ (by first | (simp; done) | (simp; omega)) _
set_option maxRecDepth 100000 in
set_option maxHeartbeats 1000000 in
theorem rUTF8_any (s : ByteArray) (w : World) (hm : s.size ≤ 1048576) (ht : RowTab w) :
    Calls Tryd.prog 15 #[.string s] w fun e w' => e = .returned (.bool (utf s)) ∧ w' = w := by
  obtain ⟨e, p, h1, h2⟩ := utf_err s
  have hC := rCheck_any s w (Nat.le_trans hm (by decide)) ht
  rw [h1] at hC
  rw [h2]
  have hC' : Hid (Calls Tryd.prog 37 #[.string s] w fun r w' => r = .returned (.tuple #[.int .i64 e, .int .i64 p]) ∧ w = w') := hC
  clear hC h1 h2
  go_enter Tryd.func15, Tryd.ntmps15
  go_wp2_with (go_at_call 37; refine hC'.out.mono ?_; rintro r w' ⟨rfl, rfl⟩)
  all_goals go_ret
  all_goals (refine ⟨?_, rfl⟩; first | (simp_all; done) | (simp_all; rw [Bool.eq_iff_iff]; simp_all; done))
/-- The reference's Write of a tree. -/
theorem rwritten (r : List Nd) (a : Option Addr) (c : Nat) (w : World) (hw : NdRow w a (nSeq 1 :: r)) (hr : chn (nSeq 1) r) (hs : wts (nSeq 1 :: r) ≤ 67108864) :
    Calls Tryd.prog 17 #[.slice a (nSeq 1 :: r).length c] w fun e w' => (∃ X, e = .returned (.tuple #[.string X, .int .i64 0, .int .i64 0]) ∧ Wrt X (nSeq 1 :: r)) ∧ Below w.heap.size w w' := by
  refine (rWrite_any a (nSeq 1 :: r).length c _ _ _ _ _ w (isN_of hw) (by rw [bsum_list]; exact hs)).mono ?_
  rintro e w' ⟨hE, hb⟩
  exact ⟨wrt_ok hr hE, hb⟩
theorem wrt_one {X Y : ByteArray} {l : List Nd} (hs : wts l ≤ 67108864) (h : Wrt X l) (h' : Wrt Y l) : X = Y := by
  obtain ⟨x, c, q, e1, e2⟩ := wr_unique (by rw [bsum_list]; exact hs) h h'
  injection e2 with e2
  injection e2 with e2
  injection e2 with e2
  injection e2 with e2 _
  injection e2 with e2
  exact e2.symm
set_option maxRecDepth 100000 in
set_option maxHeartbeats 1000000 in
theorem rEncodePage_no (n : Int) (c : ByteArray) (w : World) (h : n < 0 ∨ 2147483647 < n) :
    Calls Tryd.prog 10 #[.int .i64 n, .string c] w fun e w' => e = .returned (.tuple #[.string ⟨#[]⟩, .int .i64 224]) ∧ Below w.heap.size w w' := by
  by_cases h0 : n < 0
  · clear h
    go_enter Tryd.func10, Tryd.ntmps10
    go_wp2_with fail
    go_ret2
    exact ⟨rfl, Below.refl _ _⟩
  · have h1 : 2147483647 < n := by omega
    clear h
    go_enter Tryd.func10, Tryd.ntmps10
    go_wp2_with fail
    go_ret2
    exact ⟨rfl, Below.refl _ _⟩
theorem wts_page (n : Int) (c : ByteArray) (hc : c.size ≤ 1048576) : wts (pN (eB n) c) ≤ 67108864 := by
  have e : wts (pN (eB n) c) = 6 + ((eB n).size + 6 + (c.size + 6)) := by simp [wts, pN]; rfl
  have e2 : (eB n).size ≤ 8 := by
    have := (BerMath.sz_pos n).2
    unfold eB
    rw [S_size, BerMath.enc_len]
    exact this
  omega
set_option maxRecDepth 100000 in
set_option maxHeartbeats 2000000 in
theorem rEncodePage_ok (n : Int) (c : ByteArray) (w : World) (h0 : 0 ≤ n) (h1 : n ≤ 2147483647) (hc : c.size ≤ 1048576) :
    Calls Tryd.prog 10 #[.int .i64 n, .string c] w fun e w' => (∃ X, e = .returned (.tuple #[.string X, .int .i64 0]) ∧ Wrt X (pN (eB n) c)) ∧ Below w.heap.size w w' := by
  have hM : Hid (∀ W, Calls Tryd.prog 14 #[.int .i64 1] W fun e w' => e = .returned (.agg #[.int .i64 1, .int .i64 0, .bool true, .int .i64 16, .string ⟨#[]⟩]) ∧ Below W.heap.size W w') := fun W => made_any 1 W
  have hP : Hid (∀ W, Calls Tryd.prog 32 #[.int .i64 n] W fun e w' => e = .returned (.string (eB n)) ∧ Below W.heap.size W w') := fun W => refPutInt_any n W (by omega) (by omega)
  have hA : Hid (∀ W, Calls Tryd.prog 16 #[.int .i64 2, .int .i64 0, .int .i64 2, .string (eB n)] W fun e w' => e = .returned (.agg #[.int .i64 2, .int .i64 0, .bool false, .int .i64 2, .string (eB n)]) ∧ Below W.heap.size W w') := fun W => leaf_any 2 0 2 (eB n) W
  have hB : Hid (∀ W, Calls Tryd.prog 16 #[.int .i64 2, .int .i64 0, .int .i64 4, .string c] W fun e w' => e = .returned (.agg #[.int .i64 2, .int .i64 0, .bool false, .int .i64 4, .string c]) ∧ Below W.heap.size W w') := fun W => leaf_any 2 0 4 c W
  have hW : Hid (∀ (W : World) (a : Option Addr), NdRow W a (pN (eB n) c) → Calls Tryd.prog 17 #[.slice a 3 3] W fun e w' => (∃ X, e = .returned (.tuple #[.string X, .int .i64 0, .int .i64 0]) ∧ Wrt X (pN (eB n) c)) ∧ Below W.heap.size W w') := fun W a ha => rwritten [nInt 2 (eB n), nOct 2 c] a 3 W ha (chn_page _ _) (wts_page n c hc)
  have g0 : ¬ n < 0 := by omega
  have g1 : ¬ 2147483647 < n := by omega
  clear h0 h1 hc
  generalize eB n = en at *
  go_enter Tryd.func10, Tryd.ntmps10
  go_wp2_with fail
  refine (hP.out _).mono ?_
  rintro e w1 ⟨rfl, hb1⟩
  have HB1 : Hid (Below w.heap.size w w1) := hb1
  clear hP hb1
  go_wp2_with fail
  refine (hM.out _).mono ?_
  rintro e w2 ⟨rfl, hb2⟩
  have HB2 : Hid (Below w.heap.size w w2) := HB1.out.trans (hb2.mono HB1.out.size)
  clear hM hb2 HB1
  go_wp2_with fail
  refine (hA.out _).mono ?_
  rintro e w3 ⟨rfl, hb3⟩
  have HB3 : Hid (Below w.heap.size w w3) := HB2.out.trans (hb3.mono HB2.out.size)
  clear hA hb3 HB2
  go_wp2_with fail
  refine (hB.out _).mono ?_
  rintro e w6 ⟨rfl, hb4⟩
  have HB6 : Hid (Below w.heap.size w w6) := HB3.out.trans (hb4.mono HB3.out.size)
  clear hB hb4 HB3
  go_wp2_with fail
  obtain ⟨w7, hw7⟩ : ∃ W, w6.alloc (.cells #[.int .i64 1, .int .i64 0, .bool true, .int .i64 16, .string ⟨#[]⟩, .int .i64 2, .int .i64 0, .bool false, .int .i64 2, .string en, .int .i64 2, .int .i64 0, .bool false, .int .i64 4, .string c] 38) = W := ⟨_, rfl⟩
  have hr7 : NdRow w7 (some ⟨w6.heap.size, 0, none⟩) (pN en c) := by rw [← hw7]; exact nd_of_g (g_new ndV (fun _ => rfl) w6 38 (pN en c))
  have HB7 : Hid (Below w.heap.size w w7) := by rw [← hw7]; exact HB6.out.alloc HB6.out.size _
  rw [hw7]
  refine (hW.out w7 _ hr7).mono ?_
  rintro e w8 ⟨⟨X, rfl, hX⟩, hb8⟩
  have HB8 : Hid (Wrt X (pN en c) ∧ Below w.heap.size w w8) := ⟨hX, HB7.out.trans (hb8.mono HB7.out.size)⟩
  clear hW hX hb8 HB7 HB6 hr7 hw7
  go_wp2_with fail
  go_ret2
  exact ⟨⟨X, rfl, HB8.out.1⟩, HB8.out.2⟩
set_option maxRecDepth 100000 in
set_option maxHeartbeats 8000000 in
theorem rEncodeKeys_any (ks : List Ky) (a : Option Addr) (c : Nat) (w : World) (hk : GRow 3 kyV w a ks) (hks : ∀ k ∈ ks, k.1.size ≤ 1048576 ∧ k.2.1.size ≤ 1048576) (hn : ks.length ≤ 1048576) (hwt : wts (kNs ks) ≤ 67108864) (ht : RowTab w) :
    Calls Tryd.prog 5 #[.slice a ks.length c] w fun e w' => EkQ ks e ∧ Below w.heap.size w w' := by
  have h1S : Hid (∀ W, Calls Tryd.prog 14 #[.int .i64 1] W fun e w' => e = .returned (.agg #[.int .i64 1, .int .i64 0, .bool true, .int .i64 16, .string ⟨#[]⟩]) ∧ Below W.heap.size W w') := fun W => made_any 1 W
  have hM2 : Hid (∀ W, Calls Tryd.prog 14 #[.int .i64 2] W fun e w' => e = .returned (.agg #[.int .i64 2, .int .i64 0, .bool true, .int .i64 16, .string ⟨#[]⟩]) ∧ Below W.heap.size W w') := fun W => made_any 2 W
  have hU : Hid (∀ (s : ByteArray) W, s.size ≤ 1048576 → Below w.heap.size w W → Calls Tryd.prog 15 #[.string s] W fun e w' => e = .returned (.bool (utf s)) ∧ w' = W) := fun s W hs hb => rUTF8_any s W hs (tab_below ht hb)
  have hWr : Hid (∀ (W : World) (a : Option Addr) (c : Nat), NdRow W a (kNs ks) → Calls Tryd.prog 17 #[.slice a (kNs ks).length c] W fun e w' => (∃ X, e = .returned (.tuple #[.string X, .int .i64 0, .int .i64 0]) ∧ Wrt X (kNs ks)) ∧ Below W.heap.size W w') := fun W a c ha => rwritten (ks.flatMap kN) a c W ha (chn_keys ks _ (Or.inr ⟨rfl, rfl⟩)) hwt
  have HK : Hid (GRow 3 kyV w a ks ∧ (∀ k ∈ ks, k.1.size ≤ 1048576 ∧ k.2.1.size ≤ 1048576) ∧ ks.length ≤ 1048576) := ⟨hk, hks, hn⟩
  clear hk hks hn ht
  go_enter Tryd.func5, Tryd.ntmps5
  go_wp2_with fail
  refine (h1S.out _).mono ?_
  rintro e w1 ⟨rfl, hb1⟩
  have H1 : Hid (EkI w (nSeq 1 :: (ks.take 0).flatMap kN) (.slice (some ⟨w1.heap.size, 0, none⟩) 1 1) (w1.alloc (.cells #[.int .i64 1, .int .i64 0, .bool true, .int .i64 16, .string ⟨#[]⟩] 38))) := by
    refine ⟨⟨rfl, Or.inr ⟨w1.heap.size, 1, _, rfl, hb1.size, heap_alloc_last _ _, Nat.le_refl _, by unfold maxLen; decide, rfl, rfl⟩⟩, hb1.alloc hb1.size _⟩
  clear h1S hb1
  go_wp2_with fail
  generalize (w1.alloc (.cells #[.int .i64 1, .int .i64 0, .bool true, .int .i64 16, .string ⟨#[]⟩] 38)) = w2 at *
  generalize w1.heap.size = g1 at *
  go_loopw [4, 5] (fun lv iv wr => ∃ (i : Nat) (za : Option Addr) (zn zc : Nat), i ≤ ks.length ∧ iv = .int .i64 (i : Int) ∧ lv = .slice za zn zc ∧ Hid (EkI w (nSeq 1 :: (ks.take i).flatMap kN) (.slice za zn zc) wr ∧ ∀ j (hj : j < ks.length), j < i → (utf ks[j].1 && utf ks[j].2.1) = true)) (fun _ iv _ => ks.length - (intOf iv).toNat)
  case atStart => exact ⟨0, _, _, _, Nat.zero_le _, rfl, rfl, H1.out, fun j _ h => by omega⟩
  case round =>
    obtain ⟨i, za, zn, zc, hi, rfl, rfl, hI⟩ := hrel
    clear H1
    have i0 : (0 : Int) ≤ (i : Int) := Int.natCast_nonneg _
    by_cases hlt : i < ks.length
    · have i1 : (i : Int) < (ks.length : Int) := Int.ofNat_lt.2 hlt
      have hnk : ks.length ≤ 1048576 := HK.out.2.2
      obtain ⟨b, off, rfl, hcs⟩ := (HK.out.1.below kyV_len hI.out.1.2) i hlt
      have d0 := hcs 0 (by omega)
      have d1 := hcs 1 (by omega)
      have d2 := hcs 2 (by omega)
      have hsz := HK.out.2.1 _ (List.getElem_mem hlt)
      have htk : nSeq 1 :: (ks.take (i + 1)).flatMap kN = (nSeq 1 :: (ks.take i).flatMap kN) ++ kN ks[i] := by
        rw [List.take_succ_eq_append_getElem hlt, List.flatMap_append]
        simp
      have hbad := allU_bad hlt
      have hpre : (utf ks[i].1 && utf ks[i].2.1) = true → ∀ j (hj : j < ks.length), j < i + 1 → (utf ks[j].1 && utf ks[j].2.1) = true := fun h j hj h2 => by
        rcases Nat.lt_or_ge j i with h3 | h3
        · exact hI.out.2 j hj h3
        · obtain rfl : j = i := by omega
          exact h
      obtain ⟨⟨d, r, v⟩, hx⟩ : ∃ k, ks[i] = k := ⟨_, rfl⟩
      rw [hx] at d0 d1 d2 hsz htk hbad hpre
      dsimp only at hsz hbad hpre
      have e0 : wr.cell? ⟨b, off + i * 3, none⟩ = some (.string d) := d0
      have e1 : wr.cell? ⟨b, off + i * 3 + 1, none⟩ = some (.string r) := d1
      have e2 : wr.cell? ⟨b, off + i * 3 + 2, none⟩ = some (.bool v) := d2
      obtain ⟨L, hL⟩ : ∃ L, nSeq 1 :: (ks.take i).flatMap kN = L := ⟨_, rfl⟩
      have hLn : L.length ≤ 4194305 := by
        have h1 := flat_len (ks.take i)
        have h2 := HK.out.2.2
        rw [← hL, List.length_cons]
        rw [List.length_take] at h1
        omega
      have F : Hid (i < ks.length ∧ nSeq 1 :: (ks.take (i + 1)).flatMap kN = L ++ kN (d, r, v) ∧ L.length ≤ 4194305 ∧ ((utf d && utf r) = false → allU ks = false) ∧ ((utf d && utf r) = true → ∀ j (hj : j < ks.length), j < i + 1 → (utf ks[j].1 && utf ks[j].2.1) = true)) := ⟨hlt, by rw [htk, hL], hLn, hbad, hpre⟩
      have hI' : Hid (EkI w L (.slice za zn zc) wr) := by have := hI.out.1; rw [hL] at this; exact this
      have U1 : Hid (∀ W, Below w.heap.size w W → Calls Tryd.prog 15 #[.string d] W fun e w' => e = .returned (.bool (utf d)) ∧ w' = W) := fun W hb => hU.out d W hsz.1 hb
      have U2 : Hid (∀ W, Below w.heap.size w W → Calls Tryd.prog 15 #[.string r] W fun e w' => e = .returned (.bool (utf r)) ∧ w' = W) := fun W hb => hU.out r W hsz.2 hb
      have hL1 : Hid (∀ W, Calls Tryd.prog 16 #[.int .i64 3, .int .i64 0, .int .i64 4, .string d] W fun e w' => e = .returned (.agg #[.int .i64 3, .int .i64 0, .bool false, .int .i64 4, .string d]) ∧ Below W.heap.size W w') := fun W => leaf_any 3 0 4 d W
      have hL2 : Hid (∀ W, Calls Tryd.prog 16 #[.int .i64 3, .int .i64 2, .int .i64 0, .string r] W fun e w' => e = .returned (.agg #[.int .i64 3, .int .i64 2, .bool false, .int .i64 0, .string r]) ∧ Below W.heap.size W w') := fun W => leaf_any 3 2 0 r W
      have hL3 : Hid (∀ W, Calls Tryd.prog 16 #[.int .i64 3, .int .i64 2, .int .i64 1, .string ⟨#[255]⟩] W fun e w' => e = .returned (.agg #[.int .i64 3, .int .i64 2, .bool false, .int .i64 1, .string ⟨#[255]⟩]) ∧ Below W.heap.size W w') := fun W => leaf_any 3 2 1 ⟨#[255]⟩ W
      obtain ⟨ud, hud⟩ : ∃ b, utf d = b := ⟨_, rfl⟩
      obtain ⟨ur, hur⟩ : ∃ b, utf r = b := ⟨_, rfl⟩
      rw [hud, hur] at F
      rw [hud] at U1
      rw [hur] at U2
      obtain ⟨w3, hw3⟩ : ∃ W, wr.alloc (.cells #[.string d, .string r, .bool v] 25) = W := ⟨_, rfl⟩
      have b3 : Box w3 wr.heap.size 25 #[.string d, .string r, .bool v] := by rw [← hw3]; exact Box.new _ _ _
      have hI3 : Hid (EkI w L (.slice za zn zc) w3) := by rw [← hw3]; exact hI'.out.past ((Below.refl _ _).alloc (Nat.le_refl _) _)
      clear hI hI' d0 d1 d2 hcs hsz htk hbad hpre hx hL hLn hU hud hur hlt hi HK
      go_upto_region 6 with fail
      clear e0 e1 e2 hw3
      generalize wr.heap.size = q at *
      have B3 : Hid (Box w3 q 25 #[.string d, .string r, .bool v]) := b3
      have f0 : w3.cell? ⟨q, 0, none⟩ = some (.string d) := (b3.cell 0 (by simp)).1
      have f1 : w3.cell? ⟨q, 1, none⟩ = some (.string r) := (b3.cell 1 (by simp)).1
      have V1 := U1.out w3 hI3.out.2
      have V2 : Hid (Calls Tryd.prog 15 #[.string r] w3 fun e w' => e = .returned (.bool ur) ∧ w' = w3) := U2.out w3 hI3.out.2
      clear b3 U1 U2
      go_wp2_with fail
      refine V1.mono ?_
      rintro e w4 ⟨rfl, rfl⟩
      clear V1
      cases ud with
      | false =>
        have Hf : Hid (allU ks = false ∧ Below w.heap.size w w4) := ⟨F.out.2.2.2.1 rfl, hI3.out.2⟩
        clear V2 F hI3 hWr
        go_wp2_with fail
        go_ret2
        exact ⟨Or.inr ⟨Hf.out.1, rfl⟩, Hf.out.2⟩
      | true =>
        go_wp2_with fail
        refine V2.out.mono ?_
        rintro e w5 ⟨rfl, rfl⟩
        clear V2
        cases ur with
        | false =>
          have Hf : Hid (allU ks = false ∧ Below w.heap.size w w5) := ⟨F.out.2.2.2.1 rfl, hI3.out.2⟩
          clear F hI3 hWr
          go_wp2_with fail
          go_ret2
          exact ⟨Or.inr ⟨Hf.out.1, rfl⟩, Hf.out.2⟩
        | true =>
          go_upto_region 8 with fail
          clear f0 f1
          have bN : Below w5.heap.size w5 w5 := Below.refl _ _
          have hK : Hid (∀ W, Below w5.heap.size w5 W → W.cell? ⟨q, 0, none⟩ = some (.string d)) := fun W hb => ((B3.out.below hb).cell 0 (by simp)).1
          have hc0 := hK.out _ bN.drew
          go_region_held3 (fun w' => w'.cell? ⟨q, 0, none⟩ = some (.string d))
            (first | exact hcG | exact hcE | exact hcB | exact hcA | exact hc0)
            (first
              | (go_at_call 14; refine (hM2.out _).mono ?_; rintro e xA ⟨rfl, hbA⟩; have HA : Below w5.heap.size w5 xA := (bN.drew).trans (hbA.mono (by first | exact Nat.le_refl _ | exact (bN.drew).size)); have hcA := hK.out _ HA; clear hbA hM2)
              | (go_at_call 16; refine (hL1.out _).mono ?_; rintro e xB ⟨rfl, hbB⟩; have HB : Below w5.heap.size w5 xB := (HA).trans (hbB.mono (by first | exact Nat.le_refl _ | exact (HA).size)); have hcB := hK.out _ HB; clear hbB hL1; have HE : Below w5.heap.size w5 (xB.alloc (.cells #[.int .i64 2, .int .i64 0, .bool true, .int .i64 16, .string ⟨#[]⟩, .int .i64 3, .int .i64 0, .bool false, .int .i64 4, .string d] 38)) := HB.alloc (HB.size) _; have hcE := hK.out _ HE; obtain ⟨ya, yn, yc, w6, e9, h9, k9⟩ := ek_more (hI3.out.past HB) q _ _ _ (B3.out.below HB) [nSeq 2, nOct 3 d] (by have := F.out.2.2.1; simp only [List.length_cons, List.length_nil]; omega); have e9' : Hid ((Builtin.append_ #[40, 40] 40 #[.slice za zn zc, .slice (some ⟨xB.heap.size, 0, none⟩) 2 2]).run Tryd.prog (xB.alloc (.cells #[.int .i64 2, .int .i64 0, .bool true, .int .i64 16, .string ⟨#[]⟩, .int .i64 3, .int .i64 0, .bool false, .int .i64 4, .string d] 38)) = .ok (.slice ya yn yc) w6) := e9; have H9 : Hid (EkI w (L ++ [nSeq 2, nOct 3 d]) (.slice ya yn yc) w6) := h9; have B9 : Hid (Box w6 q 25 #[.string d, .string r, .bool v]) := k9; clear e9 h9 k9; have hcG : w6.cell? ⟨q, 0, none⟩ = some (.string d) := (B9.out.cell 0 (by simp)).1)
              | (refine step_run _ (by rfl) _ _ _ _ (by rfl) _ _ (by rfl) (by rfl) _ _ e9'.out ?_; clear e9'))
          clear bN hK hc0 hcE hcG hcA HA hcB HB HE hI3 B3
          obtain ⟨L6, hL6⟩ : ∃ x, L ++ [nSeq 2, nOct 3 d] = x := ⟨_, rfl⟩
          rw [hL6] at H9
          have FL6 : Hid (L ++ [nSeq 2, nOct 3 d] = L6 ∧ L6.length ≤ 4194307) := ⟨hL6, by rw [← hL6]; have := F.out.2.2.1; simp only [List.length_append, List.length_cons, List.length_nil]; omega⟩
          clear hL6
          have H6 := H9
          have B6 := B9
          clear H9 B9
          obtain ⟨xa, hxa⟩ : ∃ x, x = ya := ⟨_, rfl⟩
          obtain ⟨xc, hxc⟩ : ∃ x, x = yc := ⟨_, rfl⟩
          obtain ⟨xn, hxn⟩ : ∃ x, x = yn := ⟨_, rfl⟩
          subst hxa hxc hxn
          have f1 : w6.cell? ⟨q, 1, none⟩ = some (.string r) := (B6.out.cell 1 (by simp)).1
          have E0 : Hid (∀ x, r.toList = [] → L ++ kN (d, r, x) = L6 ++ kV x) := fun x h => by rw [← FL6.out.1]; unfold kN kR; rw [if_pos h]; simp
          have E1 : Hid (∀ x, r.toList ≠ [] → L ++ kN (d, r, x) = L6 ++ [nTag 0 r] ++ kV x) := fun x h => by rw [← FL6.out.1]; unfold kN kR; rw [if_neg h]; simp
          by_cases hr : r.toList = []
          · have hq : (r.toList == []) = true := by rw [hr]; rfl
            have R0 : Hid (r.toList = []) := hr
            clear hr
            have f2 : w6.cell? ⟨q, 2, none⟩ = some (.bool v) := (B6.out.cell 2 (by simp)).1
            cases v with
            | false =>
              go_wp2_with fail
              go_roundw
              case rel => exact ⟨i + 1, _, _, _, F.out.1, by simp, rfl, by rw [F.out.2.1, E0.out _ R0.out, show kV false = [] from rfl, List.append_nil]; exact H6.out, F.out.2.2.2.2 rfl⟩
              case measure => have := F.out.1; simp [intOf]; omega
            | true =>
              go_wp2_with fail
              refine (hL3.out _).mono ?_
              rintro e y3 ⟨rfl, hb1⟩
              have J3 : Hid (Below w6.heap.size w6 y3) := hb1
              clear hb1 hL3
              have hbd : L6.length + [nTag 1 ffB].length ≤ 8000000 := by have := FL6.out.2; simp only [List.length_cons, List.length_nil]; omega
              obtain ⟨ya, yn, yc, w9, e9, h9, k9⟩ := ek_more (H6.out.past J3.out) q _ _ _ (B6.out.below J3.out) [nTag 1 ffB] hbd
              have e9' : Hid ((Builtin.append_ #[40, 40] 40 #[.slice xa xn xc, .slice (some ⟨y3.heap.size, 0, none⟩) 1 1]).run Tryd.prog (y3.alloc (.cells #[.int .i64 3, .int .i64 2, .bool false, .int .i64 1, .string ⟨#[255]⟩] 38)) = .ok (.slice ya yn yc) w9) := e9
              have H9 : Hid (EkI w (L6 ++ [nTag 1 ffB]) (.slice ya yn yc) w9) := h9
              have B9 : Hid (Box w9 q 25 #[.string d, .string r, .bool true]) := k9
              clear e9 h9 k9
              clear hbd H6 B6 J3
              go_wp2_with (at_builtin; refine wp_app _ rfl _ _ _ rfl rfl _ _ _ _ rfl rfl e9'.out ?_; clear e9')
              go_roundw
              case rel => exact ⟨i + 1, _, _, _, F.out.1, by simp, rfl, by rw [F.out.2.1, E0.out _ R0.out, show kV true = [nTag 1 ffB] from rfl]; exact H9.out, F.out.2.2.2.2 rfl⟩
              case measure => have := F.out.1; simp [intOf]; omega
          · have hq : (r.toList == []) = false := by rw [Bool.eq_false_iff]; simpa using hr
            have R0 : Hid (r.toList ≠ []) := hr
            clear hr
            go_wp2_with fail
            refine (hL2.out _).mono ?_
            rintro e y3 ⟨rfl, hb1⟩
            have J3 : Hid (Below w6.heap.size w6 y3) := hb1
            clear hb1 hL2
            have hbd : L6.length + [nTag 0 r].length ≤ 8000000 := by have := FL6.out.2; simp only [List.length_cons, List.length_nil]; omega
            obtain ⟨ya, yn, yc, w7, e9, h9, k9⟩ := ek_more (H6.out.past J3.out) q _ _ _ (B6.out.below J3.out) [nTag 0 r] hbd
            have e9' : Hid ((Builtin.append_ #[40, 40] 40 #[.slice xa xn xc, .slice (some ⟨y3.heap.size, 0, none⟩) 1 1]).run Tryd.prog (y3.alloc (.cells #[.int .i64 3, .int .i64 2, .bool false, .int .i64 0, .string r] 38)) = .ok (.slice ya yn yc) w7) := e9
            have H9 : Hid (EkI w (L6 ++ [nTag 0 r]) (.slice ya yn yc) w7) := h9
            have B9 : Hid (Box w7 q 25 #[.string d, .string r, .bool v]) := k9
            clear e9 h9 k9
            clear hbd H6 B6 J3
            go_upto_region 11 with (at_builtin; refine wp_app _ rfl _ _ _ rfl rfl _ _ _ _ rfl rfl e9'.out ?_; clear e9')
            clear f1 hq
            obtain ⟨L7, hL7⟩ : ∃ x, L6 ++ [nTag 0 r] = x := ⟨_, rfl⟩
            rw [hL7] at H9
            have FL7 : Hid (L6 ++ [nTag 0 r] = L7 ∧ L7.length ≤ 4194308) := ⟨hL7, by rw [← hL7]; have := FL6.out.2; simp only [List.length_append, List.length_cons, List.length_nil]; omega⟩
            clear hL7
            have H7 := H9
            have B7 := B9
            clear H9 B9
            obtain ⟨xa, hxa⟩ : ∃ x, x = ya := ⟨_, rfl⟩
            obtain ⟨xc, hxc⟩ : ∃ x, x = yc := ⟨_, rfl⟩
            obtain ⟨xn, hxn⟩ : ∃ x, x = yn := ⟨_, rfl⟩
            subst hxa hxc hxn
            have E2 : Hid (∀ x, L ++ kN (d, r, x) = L7 ++ kV x) := fun x => by rw [← FL7.out.1]; exact E1.out x R0.out
            have f2 : w7.cell? ⟨q, 2, none⟩ = some (.bool v) := (B7.out.cell 2 (by simp)).1
            cases v with
            | false =>
              go_wp2_with fail
              go_roundw
              case rel => exact ⟨i + 1, _, _, _, F.out.1, by simp, rfl, by rw [F.out.2.1, E2.out _, show kV false = [] from rfl, List.append_nil]; exact H7.out, F.out.2.2.2.2 rfl⟩
              case measure => have := F.out.1; simp [intOf]; omega
            | true =>
              go_wp2_with fail
              refine (hL3.out _).mono ?_
              rintro e y3 ⟨rfl, hb1⟩
              have J3 : Hid (Below w7.heap.size w7 y3) := hb1
              clear hb1 hL3
              have hbd : L7.length + [nTag 1 ffB].length ≤ 8000000 := by have := FL7.out.2; simp only [List.length_cons, List.length_nil]; omega
              obtain ⟨ya, yn, yc, w9, e9, h9, k9⟩ := ek_more (H7.out.past J3.out) q _ _ _ (B7.out.below J3.out) [nTag 1 ffB] hbd
              have e9' : Hid ((Builtin.append_ #[40, 40] 40 #[.slice xa xn xc, .slice (some ⟨y3.heap.size, 0, none⟩) 1 1]).run Tryd.prog (y3.alloc (.cells #[.int .i64 3, .int .i64 2, .bool false, .int .i64 1, .string ⟨#[255]⟩] 38)) = .ok (.slice ya yn yc) w9) := e9
              have H9 : Hid (EkI w (L7 ++ [nTag 1 ffB]) (.slice ya yn yc) w9) := h9
              have B9 : Hid (Box w9 q 25 #[.string d, .string r, .bool true]) := k9
              clear e9 h9 k9
              clear hbd H7 B7 J3
              go_wp2_with (at_builtin; refine wp_app _ rfl _ _ _ rfl rfl _ _ _ _ rfl rfl e9'.out ?_; clear e9')
              go_roundw
              case rel => exact ⟨i + 1, _, _, _, F.out.1, by simp, rfl, by rw [F.out.2.1, E2.out _, show kV true = [nTag 1 ffB] from rfl]; exact H9.out, F.out.2.2.2.2 rfl⟩
              case measure => have := F.out.1; simp [intOf]; omega
    · have hie : i = ks.length := by omega
      subst hie
      have k1 : ¬ (ks.length : Int) < (ks.length : Int) := by omega
      have hF0 := hI.out.1
      rw [List.take_length] at hF0
      obtain ⟨ga, gc, hv, _, _, hg⟩ := GOwn.row (k := 5) (V := ndV) (fun _ => rfl) (show GOwn 38 5 ndV _ _ _ _ from hF0.1)
      injection hv with v1 v2 v3
      subst v1 v2 v3
      have HW := hWr.out wr za zc (nd_of_g hg)
      have Hf : Hid (allU ks = true ∧ Below w.heap.size w wr) := ⟨allU_all (fun j hj => hI.out.2 j hj hj), hF0.2⟩
      clear hI hF0 hg hWr HK hlt hi
      obtain ⟨nk, hnk⟩ : ∃ n, (kNs ks).length = n := ⟨_, rfl⟩
      have HW' : Hid (Calls Tryd.prog 17 #[.slice za nk zc] wr fun e w' => (∃ X, e = .returned (.tuple #[.string X, .int .i64 0, .int .i64 0]) ∧ Wrt X (kNs ks)) ∧ Below wr.heap.size wr w') := by rw [← hnk]; exact HW
      rw [show (nSeq 1 :: ks.flatMap kN).length = nk from hnk]
      clear HW hnk
      go_wp2_with fail
      refine HW'.out.mono ?_
      rintro e w4 ⟨⟨X, rfl, hX⟩, hb4⟩
      have Hg : Hid (Wrt X (kNs ks) ∧ Below w.heap.size w w4) := ⟨hX, Hf.out.2.trans (hb4.mono Hf.out.2.size)⟩
      clear HW' hX hb4
      go_wp2_with fail
      go_ret2
      exact ⟨Or.inl ⟨Hf.out.1, X, rfl, Hg.out.1⟩, Hg.out.2⟩
end Vr
end Go.Proofs.YtkiidlnimjjnlaaDoor
