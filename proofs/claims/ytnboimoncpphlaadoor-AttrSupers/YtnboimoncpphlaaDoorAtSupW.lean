import Derived.Test.YtnboimoncpphlaaDoorAtSupM
import Derived.Test.YtnboimoncpphlaaDoorAtEq
import Derived.Deep.RegionHeld3
import Derived.Deep.RegionWith
namespace Go.Proofs.YtnboimoncpphlaaDoor
open Go.RowKit
open TextMath (fold lo)
set_option linter.unusedVariables false

/-- The first names of the law's own table, and their rows. -/
def knL : List (List UInt8) := [[99, 110], [115, 110], [110, 97, 109, 101], [115, 116, 114, 101, 101, 116], [99, 45, 111, 117], [100, 99], [117, 105, 100], [109, 97, 105, 108], [111, 98, 106, 101, 99, 116, 99, 108, 97, 115, 115], [99, 114, 101, 97, 116, 101, 116, 105, 109, 101, 115, 116, 97, 109, 112]]
def krL : List Nat := [4, 5, 2, 10, 39, 46, 40, 41, 0, 56]
theorem kn_facts : ∀ k : Fin 10, knL.getD k.val [] = nmN (krL.getD k.val 0) ∧ krL.getD k.val 0 < 62 := by decide +kernel
def KnTab (w : World) : Prop := ∀ k, k < 10 → w.cell? ⟨0, k * 3, none⟩ = some (.string (S (knL.getD k [])))
theorem KnTab.below {w w' : World} (h : KnTab w) (hb : Below w.heap.size w w') : KnTab w' := fun i hi => by
  rw [hb.cell (World.block_lt_of_cell? w _ (h i hi))]; exact h i hi
theorem cl_lr : lr 36 = [[99, 45, 108], [108], [110, 97, 109, 101]] ∧ nmN 36 = [99, 45, 108] := by decide +kernel
theorem lin_cl : lin (S (fold [99, 45, 108])) = [[99, 45, 108], [108], [110, 97, 109, 101]] := by
  have h := name_facts 36 (by decide)
  rw [cl_lr.2] at h
  rw [h.1, h.2.2.2.1]
  exact cl_lr.1

theorem ownS_cap {w : World} {B n c : Nat} {a : Option Addr} {l : List (List UInt8)} (h : OwnS w B (.slice a n c) l) : n ≤ c := by
  rcases h.2 with ⟨h1, h2⟩ | ⟨g, cap, cur, h1, _, _, h5, _⟩
  · injection h1 with _ h3 h4
    omega
  · injection h1 with _ h3 h4
    omega

set_option maxRecDepth 100000 in
set_option maxHeartbeats 4000000 in
theorem attrSupers_walk (s : ByteArray) (which : Int) (w : World) (hs : s.size ≤ 140737488351232) (hwh : (Lit.int .i64 which).wf = true) (hS : SupTab w) (hY : SynTab w) (hK : KnTab w) :
    Calls Tryd.prog 6 #[.string s, .int .i64 which] w fun e w' => e = .returned (.bool true) ∧ Below w.heap.size w w' := by
  have hT0 : Hid (SupTab w ∧ SynTab w ∧ KnTab w) := ⟨hS, hY, hK⟩
  have hs' : Hid (s.size ≤ 140737488351232) := hs
  have h1 := supers_any ⟨#[99, 45, 108]⟩ w (by decide) hS
  rw [show (⟨#[99, 45, 108]⟩ : ByteArray).data.toList = [99, 45, 108] from rfl, lin_cl] at h1
  obtain ⟨f, hf⟩ : ∃ f, S (fold s.data.toList) = f := ⟨_, rfl⟩
  have hf' : Hid (S (fold s.data.toList) = f) := hf
  clear hS hY hK hs
  go_enter Tryd.func6, Tryd.ntmps6
  go_wp2_with fail
  refine h1.mono ?_
  rintro e W1 ⟨v1, rfl, hO1, hb1⟩
  obtain ⟨a1, c1, rfl, hr1⟩ := ownS_trow hO1
  have o1 : Hid (Below w.heap.size w W1) := hb1
  have hr1' : Hid (TRow W1 a1 [[99, 45, 108], [108], [110, 97, 109, 101]]) := hr1
  clear h1 hO1 hb1 hr1
  rw [show ([[99, 45, 108], [108], [110, 97, 109, 101]] : List (List UInt8)).length = 3 from rfl]
  obtain ⟨W2, hW2⟩ : ∃ W2, W1.alloc (.cells #[.string ⟨#[99, 45, 108]⟩, .string ⟨#[108]⟩, .string ⟨#[110, 97, 109, 101]⟩] 9) = W2 := ⟨_, rfl⟩
  have hB2 : Below W1.heap.size W1 W2 := by rw [← hW2]; exact (Below.refl _ _).alloc (Nat.le_refl _) _
  have hr2 : Row W2 (some ⟨W1.heap.size, 0, none⟩) [[99, 45, 108], [108], [110, 97, 109, 101]] := by
    intro i hi
    refine ⟨W1.heap.size, 0, rfl, ?_⟩
    rw [Nat.zero_add, ← hW2]
    have : i = 0 ∨ i = 1 ∨ i = 2 := by simp at hi; omega
    rcases this with rfl | rfl | rfl
    · exact (row_cell (heap_alloc_last W1 _) (j := 0) (by simp)).1
    · exact (row_cell (heap_alloc_last W1 _) (j := 1) (by simp)).1
    · exact (row_cell (heap_alloc_last W1 _) (j := 2) (by simp)).1
  have h2 := same04_loop _ _ a1 (some ⟨W1.heap.size, 0, none⟩) c1 3 W2 rfl (by simp) (hr1'.out.below hB2).row hr2
  rw [decide_eq_true rfl] at h2
  have o2 : Hid (Below w.heap.size w W2) := o1.out.trans (hB2.mono o1.out.size)
  clear hr1' hB2 hr2 o1
  go_wp2_with fail
  refine h2.mono ?_
  rintro e W3 ⟨rfl, q3, rfl⟩
  have o3 : Hid (Below w.heap.size w (W2.drewN q3)) := below_drewN o2.out _
  clear h2 o2 hW2
  generalize W2.drewN q3 = W3 at *
  have h3 := parseType_any s W3 (by have := hs'.out; omega)
  rw [hf] at h3
  clear hf
  by_cases hty : (typE f.data.toList).2 = true ∧ ¬ (typE f.data.toList).1 < f.size
  · have hp : parsT f = (canN f, 0, (typE f.data.toList).1) := by unfold parsT; rw [if_pos hty]
    rw [hp] at h3
    have hTyp : Typ f := ⟨by have := typE_le f.data.toList; rw [size_l] at this; omega, hty.1⟩
    have hU : Hid (UpOk f (lin f)) := upOk s f hf'.out (by have := hs'.out; omega) hTyp
    have hTyp' : Hid (Typ f) := hTyp
    obtain ⟨t, ht⟩ : ∃ t, canN f = t := ⟨_, rfl⟩
    have ht' : Hid (canN f = t) := ht
    rw [ht] at h3
    obtain ⟨p, hpp⟩ : ∃ p, (typE f.data.toList).1 = p := ⟨_, rfl⟩
    simp only [hpp] at h3
    clear hp hTyp hty ht hpp
    go_wp2_with fail
    refine h3.mono ?_
    rintro e W4 ⟨rfl, hb4⟩
    have o4 : Hid (Below w.heap.size w W4) := o3.out.trans (hb4.mono o3.out.size)
    clear h3 hb4 o3
    have h5 := supers_any s W4 (by have := hs'.out; omega) (hT0.out.1.below o4.out)
    rw [hf'.out] at h5
    go_wp2_with (first | (go_at_call 19; refine (Hid.out (p := _) ?_)) | go_in)
    unfold Hid
    refine h5.mono ?_
    rintro e W5 ⟨v5, rfl, hO5, hb5⟩
    obtain ⟨a5, c5, rfl, hr5⟩ := ownS_trow hO5
    have hcap := ownS_cap hO5
    have o5 : Hid (Below w.heap.size w W5) := o4.out.trans (hb5.mono o4.out.size)
    obtain ⟨L, hL⟩ : ∃ L, lin f = L := ⟨_, rfl⟩
    rw [hL] at hU hr5 hcap ⊢
    have hL' : Hid (lin f = L) := hL
    obtain ⟨g5, rfl, hdr⟩ := hr5 0 hU.out.pos
    have hr5' : Hid (TRow W5 (some ⟨g5, 0, none⟩) L) := hr5
    have hLp := hU.out.pos
    have hc0 : W5.cell? ⟨g5, 0, none⟩ = some (.string t) := by
      obtain ⟨g', e', hc⟩ := hr5 0 hLp
      injection e' with e'
      injection e' with e1
      subst e1
      rw [hc]
      have hh := hU.out.head
      rw [List.getD, List.getElem?_eq_getElem hLp] at hh
      have hh' : L[0] = (canN f).data.toList := hh
      rw [hh', S_of, ht'.out]
    have l0 : ((L.length : Int) == 0) = false := by rw [beq_eq_false_iff_ne]; omega
    have l3 : ¬ (L.length : Int) > 3 := by have := hU.out.len; omega
    have l1 : (0 : Int) < (L.length : Int) := by omega
    clear hL h5 hO5 hb5 o4 hr5 hdr
    go_wp2_with fail
    clear l0 l3 hc0
    go_loopw [10] (fun iv wr => ∃ i : Nat, i ≤ L.length ∧ iv = .int .i64 (i : Int) ∧ Hid (Below W5.heap.size W5 wr)) (fun iv _ => L.length - (intOf iv).toNat)
    case atStart => exact ⟨0, Nat.zero_le _, rfl, Below.refl _ _⟩
    case round =>
      obtain ⟨i, hi, rfl, hB⟩ := hrel
      by_cases hlt : i < L.length
      · obtain ⟨x, hx⟩ : ∃ x, L[i] = x := ⟨_, rfl⟩
        have hgx : L.getD i [] = x := by rw [List.getD, List.getElem?_eq_getElem hlt]; exact hx
        have hE := hU.out.each i hlt
        rw [hgx] at hE
        obtain ⟨e1, e2, e3, e4, e5⟩ := hE
        have hxz := hU.out.size i hlt
        rw [hgx] at hxz
        have hcx : Hid (W5.cell? ⟨g5, i, none⟩ = some (.string (S x))) := by
          obtain ⟨g', e', hc⟩ := hr5'.out i hlt
          injection e' with e'
          injection e' with e1
          subst e1
          unfold Hid
          rw [hc, hx]
        have hdl : (L.drop i).length = L.length - i := List.length_drop
        have cSup : ∀ W, Below W5.heap.size W5 W → Hid (Calls Tryd.prog 19 #[.string (S x)] W fun e w' => ∃ a c, e = .returned (.slice a (L.length - i) c) ∧ Row w' a (L.drop i) ∧ Below W.heap.size W w') := fun W hW => by
          have h := supers_any (S x) W (by rw [S_size]; exact hxz) ((hT0.out.1.below o5.out).below hW)
          rw [S_l, e1, e4] at h
          refine Calls.mono h ?_
          rintro e w' ⟨v, rfl, hO, hb⟩
          obtain ⟨a, c, rfl, hr⟩ := ownS_trow hO
          rw [hdl]
          exact ⟨a, c, rfl, hr.row, hb⟩
        have cSame : ∀ W a c d, Below W5.heap.size W5 W → Row W a (L.drop i) → Hid (Calls Tryd.prog 20 #[.slice a (L.length - i) c, .slice (some ⟨g5, i, none⟩) (L.length - i) d] W fun e w' => e = .returned (.bool true) ∧ Below W.heap.size W w') := fun W a c d hW hr => by
          have h := same04_loop (L.drop i) (L.drop i) a (some ⟨g5, i, none⟩) c d W rfl (by rw [hdl]; have := hU.out.len; omega) hr ((hr5'.out.below hW).drop i)
          rw [hdl, decide_eq_true rfl] at h
          refine Calls.mono h ?_
          rintro e w' ⟨rfl, q, rfl⟩
          exact ⟨rfl, below_drewN (Below.refl _ _) _⟩
        have cSyn1 : ∀ W, Below W5.heap.size W5 W → Hid (Calls Tryd.prog 21 #[.string (S x)] W fun e w' => e = .returned (.int .i64 (synN f)) ∧ Below W.heap.size W w') := fun W hW => by
          have h := syntaxT_any (S x) (S x) (by rw [S_l]; exact e1) W (by rw [S_size]; exact hxz) e2 ((hT0.out.2.1.below o5.out).below hW)
          rw [e5] at h
          exact h
        have cSyn2 : ∀ W, Below W5.heap.size W5 W → Hid (Calls Tryd.prog 21 #[.string s] W fun e w' => e = .returned (.int .i64 (synN f)) ∧ Below W.heap.size W w') := fun W hW =>
          syntaxT_any s f hf'.out W (by have := hs'.out; omega) hTyp'.out ((hT0.out.2.1.below o5.out).below hW)
        have hlx : Hid (∀ j, j < L.length → ∀ W, Below W5.heap.size W5 W → W.cell? ⟨g5, j, none⟩ = some (.string (S (L.getD j []))) ∧ Calls Tryd.prog 15 #[.string (S (L.getD j [])), .string (S x)] W fun e w' => e = .returned (.bool (decide (i ≤ j))) ∧ Below W.heap.size W w') := by
          intro j hj W hW
          obtain ⟨q1, q2, q3, q4, q5⟩ := hU.out.each j hj
          refine ⟨?_, ?_⟩
          · obtain ⟨g', e', hc⟩ := (hr5'.out.below hW) j hj
            injection e' with e'
            injection e' with e1
            subst e1
            rw [hc, List.getD, List.getElem?_eq_getElem hj]
            rfl
          · have h := coversT_any (S (L.getD j [])) (S x) (S (L.getD j [])) (S x) (by rw [S_l]; exact q1) (by rw [S_l]; exact e1) W (by rw [S_size]; exact hU.out.size j hj) (by rw [S_size]; exact hxz) q2 e2 ((hT0.out.1.below o5.out).below hW)
            rw [q3, S_l, e4, hU.out.ord i j hlt hj] at h
            exact h
        obtain ⟨Y, hYd⟩ : ∃ Y, synN f = Y := ⟨_, rfl⟩
        rw [hYd] at cSyn1 cSyn2
        obtain ⟨X, hX⟩ : ∃ X, S x = X := ⟨_, rfl⟩
        rw [hX] at hcx cSup cSyn1 hlx
        have cx : wr.cell? ⟨g5, i, none⟩ = some (.string X) := by rw [hB.out.cell (World.block_lt_of_cell? _ _ hcx.out)]; exact hcx.out
        have i0 : (0 : Int) ≤ (i : Int) := Int.natCast_nonneg _
        have i1 : (i : Int) < (L.length : Int) := Int.ofNat_lt.2 hlt
        have hBw : Below W5.heap.size W5 wr := hB.out
        clear hx hgx e1 e2 e3 e4 e5 hxz hdl hYd hX
        go_wp2_with fail
        go_region_held3 (fun w' => w'.cell? ⟨g5, i, none⟩ = some (.string X) ∧ Below W5.heap.size W5 w')
          (first
            | exact ⟨cx, hBw.drew⟩
            | exact ⟨(HB4.cell (World.block_lt_of_cell? _ _ hcx.out)).trans hcx.out, HB4⟩
            | exact ⟨(HB3.cell (World.block_lt_of_cell? _ _ hcx.out)).trans hcx.out, HB3⟩
            | exact ⟨(HB2.cell (World.block_lt_of_cell? _ _ hcx.out)).trans hcx.out, HB2⟩
            | exact ⟨(HB1.cell (World.block_lt_of_cell? _ _ hcx.out)).trans hcx.out, HB1⟩)
          (first
            | (go_at_call 19; refine (cSup _ hBw.drew).out.mono ?_; rintro e w1 ⟨av, cv, rfl, hrv, hb1⟩; have HB1 : Below W5.heap.size W5 w1 := hBw.drew.trans (hb1.mono hBw.drew.size); clear hb1)
            | (go_at_call 20; refine (cSame _ _ _ _ HB1 hrv).out.mono ?_; rintro e w2 ⟨rfl, hb2⟩; have HB2 : Below W5.heap.size W5 w2 := HB1.trans (hb2.mono HB1.size); clear hb2)
            | (go_at_call 21; refine (cSyn2 _ HB3).out.mono ?_; rintro e w4 ⟨rfl, hb4⟩; have HB4 : Below W5.heap.size W5 w4 := HB3.trans (hb4.mono HB3.size); clear hb4)
            | (go_at_call 21; refine (cSyn1 _ HB2).out.mono ?_; rintro e w3 ⟨rfl, hb3⟩; have HB3 : Below W5.heap.size W5 w3 := HB2.trans (hb3.mono HB2.size); clear hb3))
        have HB4' : Hid (Below W5.heap.size W5 w4) := HB4
        clear cSup cSame cSyn1 cSyn2 HB1 HB2 HB3 HB4 hrv hBw cx
        go_wp2_with fail
        go_loopw [11] (fun jv wr2 => ∃ j : Nat, j ≤ L.length ∧ jv = .int .i64 (j : Int) ∧ Hid (Below W5.heap.size W5 wr2)) (fun jv _ => L.length - (intOf jv).toNat)
        case atStart => exact ⟨0, Nat.zero_le _, rfl, HB4'⟩
        case round =>
          clear HB4'
          obtain ⟨j, hj, rfl, hB2⟩ := hrel
          by_cases hjt : j < L.length
          · have hcv : ∀ W, Below W5.heap.size W5 W → Hid (Calls Tryd.prog 15 #[.string (S (L.getD j [])), .string X] W fun e w' => e = .returned (.bool (decide (i ≤ j))) ∧ Below W.heap.size W w') := fun W hW => (hlx.out j hjt W hW).2
            have hcj := fun W hW => (hlx.out j hjt W hW).1
            have hcj' : Hid (∀ W, Below W5.heap.size W5 W → W.cell? ⟨g5, j, none⟩ = some (.string (S (L.getD j [])))) := hcj
            have hci' : Hid (∀ W, Below W5.heap.size W5 W → W.cell? ⟨g5, i, none⟩ = some (.string X)) := fun W hW => (hW.cell (World.block_lt_of_cell? _ _ hcx.out)).trans hcx.out
            clear hcj
            generalize S (L.getD j []) = Z at *
            have j0 : (0 : Int) ≤ (j : Int) := Int.natCast_nonneg _
            have j1 : (j : Int) < (L.length : Int) := Int.ofNat_lt.2 hjt
            have hBd : Hid (Below W5.heap.size W5 _) := hB2.out.drew
            have hBw : Below W5.heap.size W5 _ := hB2.out
            by_cases hij : i ≤ j
            · rw [decide_eq_true hij] at hcv
              have hij' : (i : Int) ≤ (j : Int) := Int.ofNat_le.2 hij
              go_wp2_with fail
              go_region_held3 (fun w' => w'.cell? ⟨g5, j, none⟩ = some (.string Z) ∧ w'.cell? ⟨g5, i, none⟩ = some (.string X))
                (first
                  | exact ⟨hcj'.out _ hBw.drew, hci'.out _ hBw.drew⟩
                  | exact ⟨hcj'.out _ HB5, hci'.out _ HB5⟩)
                (first
                  | (go_at_call 15; refine (hcv _ hBw.drew).out.mono ?_; rintro e w5 ⟨rfl, hb5⟩; have HB5 : Below W5.heap.size W5 w5 := hBw.drew.trans (hb5.mono hBw.drew.size); clear hb5))
              all_goals
                go_wp2_with fail
                go_roundw
                case rel => exact ⟨j + 1, hjt, by simp, HB5⟩
                case measure => simp [intOf]; omega
            · rw [decide_eq_false hij] at hcv
              have hij' : ¬ (i : Int) ≤ (j : Int) := by omega
              go_wp2_with fail
              go_region_held3 (fun w' => w'.cell? ⟨g5, j, none⟩ = some (.string Z) ∧ w'.cell? ⟨g5, i, none⟩ = some (.string X))
                (first
                  | exact ⟨hcj'.out _ hBw.drew, hci'.out _ hBw.drew⟩
                  | exact ⟨hcj'.out _ HB5, hci'.out _ HB5⟩)
                (first
                  | (go_at_call 15; refine (hcv _ hBw.drew).out.mono ?_; rintro e w5 ⟨rfl, hb5⟩; have HB5 : Below W5.heap.size W5 w5 := hBw.drew.trans (hb5.mono hBw.drew.size); clear hb5))
              all_goals
                go_wp2_with fail
                go_roundw
                case rel => exact ⟨j + 1, hjt, by simp, HB5⟩
                case measure => simp [intOf]; omega
          · have j1 : ¬ (j : Int) < (L.length : Int) := by omega
            go_wp2_with fail
            go_roundw
            case rel => exact ⟨i + 1, hlt, by simp, hB2⟩
            case measure => simp [intOf]; omega
      · have i1 : ¬ (i : Int) < (L.length : Int) := by omega
        have oB : Hid (Below w.heap.size w wr) := o5.out.trans (hB.out.mono o5.out.size)
        by_cases hw1 : which < 0
        · go_wp2_with fail
          go_ret
          exact ⟨rfl, oB.out⟩
        · by_cases hw2 : which ≥ 10
          · go_wp2_with fail
            go_ret
            exact ⟨rfl, oB.out⟩
          · obtain ⟨k, rfl⟩ : ∃ k : Nat, which = (k : Int) := ⟨which.toNat, by omega⟩
            have hk : k < 10 := by omega
            have hkc := (hT0.out.2.2.below oB.out) k hk
            obtain ⟨m1, m2⟩ := kn_facts ⟨k, hk⟩
            have m1' : knL.getD k [] = nmN (krL.getD k 0) := m1
            obtain ⟨b1, b2, b3, b4, b5⟩ := name_facts (krL.getD k 0) m2
            have h64 : (nmN (krL.getD k 0)).length ≤ 64 := nm_size ⟨krL.getD k 0, m2⟩
            rw [m1'] at hkc
            generalize nmN (krL.getD k 0) = kn at *
            have hcov := coversT_any (S kn) s (S kn) f (by rw [S_l]; exact b1) hf'.out wr (by rw [S_size]; omega) (by have := hs'.out; omega) b2 hTyp'.out ((hT0.out.1.below o5.out).below hB.out)
            rw [b3, S_l, hL'.out] at hcov
            have hin : ∀ W, Below W5.heap.size W5 W → Hid (Calls Tryd.prog 22 #[.string (S kn), .slice (some ⟨g5, 0, none⟩) L.length c5] W fun e w' => e = .returned (.bool (decide (kn ∈ L))) ∧ w' = W) := fun W hW => in_any L kn (some ⟨g5, 0, none⟩) c5 W (by have := hU.out.len; omega) (hr5'.out.below hW).row
            generalize decide (kn ∈ L) = t2 at *
            generalize S kn = KN at *
            have k0 : (0 : Int) ≤ (k : Int) := Int.natCast_nonneg _
            have k1 : (k : Int) < 10 := by omega
            clear m1 m1' m2 b1 b2 b3 b4 b5 h64 hw1 hw2
            go_wp2_with (first
              | (go_at_call 15; refine hcov.mono ?_; rintro e w5 ⟨rfl, hb5⟩; have HB5 : Below W5.heap.size W5 w5 := hB.out.trans (hb5.mono hB.out.size); have oB5 : Hid (Below w.heap.size w w5) := oB.out.trans (hb5.mono oB.out.size); clear hb5)
              | (go_at_call 22; refine (hin _ HB5).out.mono ?_; rintro e w6 ⟨rfl, hw6⟩; subst hw6))
            go_ret
            exact ⟨by simp, oB5.out⟩
  · have hp : parsT f = (⟨#[]⟩, 40, (typE f.data.toList).1) := by unfold parsT; rw [if_neg hty]
    rw [hp] at h3
    obtain ⟨p, hpp⟩ : ∃ p, (typE f.data.toList).1 = p := ⟨_, rfl⟩
    simp only [hpp] at h3
    clear hp hty hpp
    go_wp2_with fail
    refine h3.mono ?_
    rintro e W4 ⟨rfl, hb4⟩
    have o4 : Hid (Below w.heap.size w W4) := o3.out.trans (hb4.mono o3.out.size)
    clear h3 hb4 o3
    go_wp2_with (go_in)
    go_ret
    exact ⟨rfl, o4.out⟩
end Go.Proofs.YtnboimoncpphlaaDoor
