import Derived.Test.YthaonpmmfennhaaWsD
import Derived.Test.YthaonpmmfennhaaBwSm
import Derived.Test.YthaonpmmfennhaaBwF
namespace Go.Proofs.Ythaonpmmfennhaa
open Go.RowKit
open BerMath (lo enc sz be)
open FrMath (Hdr lb bd within Out ends cut Cut)
set_option linter.unusedVariables false

/-- The three nodes as they are laid. -/
def lay3 (s e : ByteArray) : Obj := .cells #[.int .i64 1, .int .i64 0, .bool true, .int .i64 16, .string ⟨#[]⟩, .int .i64 2, .int .i64 0, .bool false, .int .i64 4, .string s, .int .i64 2, .int .i64 0, .bool false, .int .i64 2, .string e] 40
theorem cell_lay (W : World) (cs : Array Value) (t i : Nat) (v : Value) (h : cs[i]? = some v) : (W.alloc (.cells cs t)).cell? ⟨W.heap.size, i, none⟩ = some v := by
  rw [World.cell?_alloc_mark]
  exact h
theorem nodes3 (W : World) (b : ByteArray) : IsNodes (W.alloc (lay3 b (S (enc (b.size : Int))))) (some ⟨W.heap.size, 0, none⟩) 3 wD wC wT wM (wB b) := fun i hi => by
  have : i = 0 ∨ i = 1 ∨ i = 2 := by omega
  rcases this with rfl | rfl | rfl
  all_goals exact ⟨W.heap.size, 0, rfl, cell_lay _ _ _ _ _ rfl, cell_lay _ _ _ _ _ rfl, cell_lay _ _ _ _ _ rfl, cell_lay _ _ _ _ _ rfl, cell_lay _ _ _ _ _ rfl⟩
theorem ww_any (W : World) (b : ByteArray) (h : b.size ≤ 1000000) :
    Calls Try.prog 14 #[.slice (some ⟨W.heap.size, 0, none⟩) 3 3] (W.alloc (lay3 b (S (enc (b.size : Int))))) fun e w' => e = .returned (.tuple #[.string (S (msgL b.data.toList)), .int .i64 0, .int .i64 0]) ∧ Below W.heap.size W w' := by
  refine (write_any (some ⟨W.heap.size, 0, none⟩) 3 3 wD wC wT wM (wB b) _ (nodes3 W b) (by have := ws_sum b h; omega)).mono ?_
  rintro e w' ⟨hE, hb⟩
  have hB : Below W.heap.size W w' := ((Below.refl _ _).alloc (Nat.le_refl _) _).trans (hb.mono (by simp))
  rcases hE with ⟨_, H, σ, rfl, hI, hL⟩ | ⟨cc, qq, hc0, hck, rfl⟩
  · rw [w_out (spX_of hI) hL]
    exact ⟨rfl, hB⟩
  · exfalso
    have hfit := (fit_iff 3 wD wC wT wM (wB b)).2 (w_good b)
    rcases hck with ⟨_, _, h3, _⟩ | ⟨h1, _⟩ | ⟨i, hi, _, _, ⟨h4, _⟩ | ⟨_, h5, _⟩⟩
    · exact hc0 h3
    · omega
    · exact h4 (hfit i hi).1
    · exact h5 (hfit i hi).2
/-- The headers of a message. -/
def wH (b : ByteArray) (j : Nat) : List UInt8 := if j = 0 then 48 :: lenB (elB 4 b.data.toList ++ elB 2 (enc (b.data.toList.length : Int))).length else if j = 1 then 4 :: lenB b.data.toList.length else 2 :: lenB (enc (b.data.toList.length : Int)).length
theorem wH_12 (b : ByteArray) : outB (wH b) (wB b) 1 2 = elB 4 b.data.toList ++ elB 2 (enc (b.data.toList.length : Int)) := by
  have hB2 : (wB b 2).data.toList = enc (b.data.toList.length : Int) := by show (S _).data.toList = _; rw [S_l, size_l]
  rw [outB_cons, outB_cons, outB_zero, List.append_nil, hB2]
  rfl
theorem wH_out (b : ByteArray) : outB (wH b) (wB b) 0 3 = msgL b.data.toList := by
  rw [outB_cons, wH_12]
  show (_ :: lenB _ ++ ([] : List UInt8)) ++ _ = _
  rw [List.append_nil]
  rfl
theorem wH_spx (b : ByteArray) (h : b.size ≤ 1000000) : SpX 3 0 wD wC wT wM (wB b) [0, (msgL b.data.toList).length] (wH b) := by
  have hl : b.data.toList.length ≤ 1000000 := by rw [size_l]; exact h
  have hm := msgL_len b.data.toList hl
  have he : (enc (b.data.toList.length : Int)).length ≤ 3 := by rw [BerMath.enc_len]; exact sz3 _ hl
  have i0 : idx wD (0 : Int) 3 0 = 3 := by decide
  have i1 : idx wD (1 : Int) 3 0 = 3 := by decide
  have i2 : idx wD (2 : Int) 3 0 = 0 := by decide
  refine ⟨fun x => ?_, fun j _ hj => ?_⟩
  · match x with
    | 0 => rw [show ((0 : Nat) : Int) + 1 = 1 from rfl, show ((0 : Nat) : Int) = 0 from rfl, i0, i1, byB_same]; rfl
    | 1 =>
      rw [show ((1 : Nat) : Int) + 1 = 2 from rfl, show ((1 : Nat) : Int) = 1 from rfl, i1, i2]
      show (msgL b.data.toList).length = (outB (wH b) (wB b) 0 3).length
      rw [wH_out]
    | y + 2 =>
      rw [idx_here wD _ 3 0 (Or.inr (by show (1 : Int) < _; omega)), idx_here wD _ 3 0 (Or.inr (by show (1 : Int) < _; omega)), byB_same]
      rfl
  · have : j = 0 ∨ j = 1 ∨ j = 2 := by omega
    rcases this with rfl | rfl | rfl
    · refine ⟨_, _, (hdr_short 0 true 16 (elB 4 b.data.toList ++ elB 2 (enc (b.data.toList.length : Int))).length), says_wide _ (by have := hm.2.2; omega), fun _ => ?_, fun h => by cases h⟩
      rw [show idx wD (wD 0 + 1) (3 - (0 + 1)) (0 + 1) = 3 by decide, ← wH_12]
      rfl
    · refine ⟨_, _, (hdr_short 0 false 4 b.data.toList.length), says_wide _ (by omega), fun h => (by cases h), fun _ => by rw [size_l]; rfl⟩
    · refine ⟨_, _, (hdr_short 0 false 2 (enc (b.data.toList.length : Int)).length), says_wide _ (by omega), fun h => (by cases h), fun _ => ?_⟩
      show _ = (S _).size
      rw [S_size, size_l]
theorem wtree_any (b : ByteArray) (h : b.size ≤ 1000000) (W : World) : Calls Try.prog 10 #[.string (S (msgL b.data.toList))] W fun r w' => (∃ v, r = .returned (.tuple #[v, .int .i64 0, .int .i64 0]) ∧ OwnN w' W.heap.size v (nodesL 3 wD wC wT wM (wB b))) ∧ Below W.heap.size W w' := by
  have hl : b.data.toList.length ≤ 1000000 := by rw [size_l]; exact h
  have hm := msgL_len b.data.toList hl
  exact tree_yes (by rw [S_size]; omega) ((tree_back (wH_spx b h) (w_good b) (by omega) (S (msgL b.data.toList)) [] (by rw [S_l, List.append_nil, wH_out])).1 rfl)
theorem msg_in (ws : List (List UInt8)) (i : Nat) (h : i < ws.length) : (ws.take (i + 1)).map msgL = (ws.take i).map msgL ++ [msgL ws[i]] := by
  rw [List.take_succ_eq_append_getElem h, List.map_append]
  rfl

set_option maxRecDepth 100000 in
set_option maxHeartbeats 2000000 in
theorem bodies_any (ws : List (List UInt8)) (v : Value) (B : Nat) (w : World) (hown : OwnS w B v ws) (hw : ∀ b ∈ ws, b.length ≤ 1000000) (hl : ws.length ≤ 1048576) :
    Calls Try.prog 4 #[v] w fun e w' => ∃ v', e = .returned (.tuple #[v', .bool true]) ∧ OwnS w' w.heap.size v' (ws.map msgL) ∧ Below w.heap.size w w' := by
  obtain ⟨la, lc, rfl⟩ := ownS_len hown
  go_enter Try.func4, Try.ntmps4
  go_wp2_with fail
  go_loopw [4, 13] (fun ov iv wr => ∃ (i : Nat), i ≤ ws.length ∧ iv = .int .i64 (i : Int) ∧ Hid (OwnS wr w.heap.size ov ((ws.take i).map msgL)) ∧ Below w.heap.size w wr) (fun _ iv _ => ws.length - (intOf iv).toNat)
  case atStart => exact ⟨0, Nat.zero_le _, rfl, ownS_nil _ _, Below.refl _ _⟩
  case round =>
    obtain ⟨i, hil, rfl, hout, HB⟩ := hrel
    obtain ⟨oa, oc, rfl⟩ := ownS_len hout.out
    have hBs : w.heap.size ≤ wr.heap.size := HB.size
    by_cases h1 : i < ws.length
    · have hownr : OwnS wr B (.slice la ws.length lc) ws := ownS_below hown HB
      rcases ownS_form hownr with ⟨_, hc⟩ | ⟨gl, lcap, hlve⟩
      · rw [hc] at h1; simp at h1
      injection hlve with hl1 hl2 hl3
      subst hl1 hl3
      have hcell := ownS_cell hownr i h1
      obtain ⟨b, hb⟩ : ∃ b, ws[i] = b := ⟨_, rfl⟩
      have hbl : b.length ≤ 1000000 := by rw [← hb]; exact hw _ (List.getElem_mem h1)
      have hmsg := msg_in ws i h1
      rw [hb] at hcell hmsg
      obtain ⟨X, hX⟩ : ∃ X, S b = X := ⟨_, rfl⟩
      rw [hX] at hcell
      have hXb : X.data.toList = b := by rw [← hX, S_l]
      have hXs : X.size = b.length := by rw [← hX, S_size]
      rw [← hXb] at hmsg
      have hXs2 : X.size ≤ 1000000 := by omega
      have HP : Hid (Calls Try.prog 13 #[.int .i64 (X.size : Int)] wr fun e w' => e = .returned (.string (S (enc (X.size : Int)))) ∧ Below wr.heap.size wr w') := putInt_any (X.size : Int) wr (by omega) (by omega)
      have HW : ∀ W : World, Hid (Calls Try.prog 14 #[.slice (some ⟨W.heap.size, 0, none⟩) 3 3] (W.alloc (lay3 X (S (enc (X.size : Int))))) fun e w' => e = .returned (.tuple #[.string (S (msgL X.data.toList)), .int .i64 0, .int .i64 0]) ∧ Below W.heap.size W w') := fun W => ww_any W X hXs2
      have HE : ∀ W : World, Hid (Calls Try.prog 15 #[.int .u8 4, .string X] W fun e w' => e = .returned (.string (S (elB 4 X.data.toList))) ∧ Below W.heap.size W w') := fun W => element_any 4 X W (by omega)
      have HN : ∀ W : World, Hid (Calls Try.prog 16 #[.int .u8 2, .int .i64 (X.size : Int)] W fun e w' => e = .returned (.string (S (elB 2 (enc (X.size : Int))))) ∧ Below W.heap.size W w') := fun W => number_any 2 X.size W (by omega)
      have hjoin : Hid (S (elB 4 X.data.toList) ++ S (elB 2 (enc (X.size : Int))) = S (elB 4 X.data.toList ++ elB 2 (enc (X.size : Int)))) := S_app2 _ _
      have hml := msgL_len X.data.toList (by rw [hXb]; exact hbl)
      rw [size_l] at hml
      have hadd : Hid (¬ (S (elB 4 X.data.toList)).size + (S (elB 2 (enc (X.size : Int)))).size > 9223372036854775807 ∧ (S (elB 4 X.data.toList ++ elB 2 (enc (X.size : Int)))).size ≤ 16777216) := by
        have := hml.2.2
        rw [List.length_append] at this
        unfold Hid
        rw [S_size, S_size, S_size, List.length_append]
        omega
      have HF : ∀ W : World, Hid (Calls Try.prog 15 #[.int .u8 48, .string (S (elB 4 X.data.toList ++ elB 2 (enc (X.size : Int))))] W fun e w' => e = .returned (.string (S (msgL X.data.toList))) ∧ Below W.heap.size W w') := fun W => by
        have h := element_any 48 (S (elB 4 X.data.toList ++ elB 2 (enc (X.size : Int)))) W hadd.out.2
        rw [S_l] at h
        unfold Hid msgL
        rw [size_l]
        exact h
      obtain ⟨M, hM⟩ : ∃ M, msgL X.data.toList = M := ⟨_, rfl⟩
      rw [hM] at hmsg
      simp only [hM] at HW HF
      have i0 : (0 : Int) ≤ (i : Int) := Int.natCast_nonneg _
      have i1 : (i : Int) < (ws.length : Int) := Int.ofNat_lt.2 h1
      have hmeas : Hid (ws.length - (i + 1) < ws.length - i) := by unfold Hid; omega
      have hpl : Hid (((ws.take i).map msgL).length ≤ 67108864) := by unfold Hid; rw [List.length_map, List.length_take]; omega
      generalize elB 4 X.data.toList = E4 at *
      generalize elB 2 (enc (X.size : Int)) = E2 at *
      generalize (ws.take i).map msgL = L at *
      clear hml hb hbl hX hXb hXs hownr hw hM
      go_wp2_with fail
      refine HP.out.mono ?_
      rintro e w1 ⟨rfl, hb1⟩
      have HB1 : Below w.heap.size w w1 := HB.trans (hb1.mono HB.size)
      have hout1 : Hid (OwnS w1 w.heap.size (.slice oa L.length oc) L) := ownS_below hout.out hb1
      clear hb1 HP hout HB hcell
      go_wp2_with fail
      refine (HW w1).out.mono ?_
      rintro e w2 ⟨rfl, hb2⟩
      have HB2 : Below w.heap.size w w2 := HB1.trans (hb2.mono HB1.size)
      have hout2 : Hid (OwnS w2 w.heap.size (.slice oa L.length oc) L) := ownS_below hout1.out hb2
      clear hb2 HW hout1 HB1
      go_wp2_with fail
      refine (HE w2).out.mono ?_
      rintro e w3 ⟨rfl, hb3⟩
      have HB3 : Below w.heap.size w w3 := HB2.trans (hb3.mono HB2.size)
      have hout3 : Hid (OwnS w3 w.heap.size (.slice oa L.length oc) L) := ownS_below hout2.out hb3
      clear hb3 HE hout2 HB2
      go_wp2_with fail
      refine (HN w3).out.mono ?_
      rintro e w4 ⟨rfl, hb4⟩
      have HB4 : Below w.heap.size w w4 := HB3.trans (hb4.mono HB3.size)
      have hout4 : Hid (OwnS w4 w.heap.size (.slice oa L.length oc) L) := ownS_below hout3.out hb4
      clear hb4 HN hout3 HB3
      have hj := hjoin.out
      have ha := hadd.out.1
      have hBs4 : w.heap.size ≤ w4.heap.size := HB4.size
      go_wp2_with fail
      refine (HF w4).out.mono ?_
      rintro e w5 ⟨rfl, hb5⟩
      have HB5 : Below w.heap.size w w5 := HB4.trans (hb5.mono HB4.size)
      have hout5 : Hid (OwnS w5 w.heap.size (.slice oa L.length oc) L) := ownS_below hout4.out hb5
      have hBs5 : w.heap.size ≤ w5.heap.size := HB5.size
      clear hb5 HF hout4 HB4 hj ha hjoin hadd
      have hmsg' : Hid ((ws.take (i + 1)).map msgL = L ++ [M]) := hmsg
      have h1' : Hid (i + 1 ≤ ws.length) := h1
      clear hmsg
      go_wp2_with (at_builtin; refine push_text _ rfl _ _ rfl w.heap.size _ L M _ rfl rfl ?_ ?_ ?_ hpl.out ?_; (exact World.ownsRow.alloc hout5.out _); (exact heap_alloc_new _ _); (simp; omega); intro g6 cap6 w6 hown6 hgr6 hlie6 hb6)
      refine ⟨⟨i + 1, h1'.out, by simp, ?_, (HB5.alloc HB5.size _).trans hb6⟩, ?_⟩
      · unfold Hid
        rw [hmsg'.out]
        exact hown6
      · have := hmeas.out
        simp [intOf]
        omega
    · have hie : i = ws.length := by omega
      subst hie
      have key : ∀ (v : Value) (l : List (List UInt8)), l = ws.map msgL → OwnS wr w.heap.size v l → OwnS wr w.heap.size v (ws.map msgL) := fun v l e h => e ▸ h
      clear hown hw
      go_wp2_with fail
      go_ret2
      exact ⟨_, rfl, key _ _ (by rw [List.take_length]) hout.out, HB⟩
end Go.Proofs.Ythaonpmmfennhaa
