import Derived.Test.YtoofphmplfbjgaaGreatMtFrmO
import Derived.Test.YtoofphmplfbjgaaGreatMtFrmM
import Derived.Test.YtoofphmplfbjgaaGreatAtBuild
import Derived.Test.YtoofphmplfbjgaaGreatUnhexLoop
import Derived.Deep.DeepCutAuto
namespace Go.Proofs.YtoofphmplfbjgaaGreat
open Go.RowKit
open TextMath (fold squeeze check unhex wo)
set_option linter.unusedVariables false
set_option linter.unusedSimpArgs false
namespace Ml

theorem owns_same {w w' : World} {B k n : Nat} {e : TypeId} {v : Value} {xs : List Value} (h : w.ownsRow B e k v n xs) (hb : ∀ g, v.ownBlock = some g → w'.heap[g]? = w.heap[g]?) : w'.ownsRow B e k v n xs := by
  rcases h with ⟨h1, ⟨rfl, h2⟩ | ⟨g, cap, cur, rfl, h3, h4, h5⟩⟩
  · exact ⟨h1, Or.inl ⟨rfl, h2⟩⟩
  · exact ⟨h1, Or.inr ⟨g, cap, cur, rfl, h3, by rw [hb g rfl]; exact h4, h5⟩⟩
theorem isB_below {B b : Nat} {l : List UInt8} {W W' : World} (h : IsB B b l W) (hb : Below W.heap.size W W') : IsB B b l W' := by
  have key : ∀ p, Lib.BuilderAt 118 5 B b p (bv l) W → Lib.BuilderAt 118 5 B b p (bv l) W' := fun p hp => by
    obtain ⟨h1, v, h2, h3, h4⟩ := hp
    have hlt : b < W.heap.size := (Array.getElem?_eq_some_iff.1 h2).1
    exact ⟨h1, v, by rw [hb.block b hlt]; exact h2, owns_same h3 (fun g hg => hb.block g (World.ownsRow.lt h3 g hg).2), h4⟩
  rcases h with h | h
  · exact Or.inl (key _ h)
  · exact Or.inr (key _ h)
/-- A text cut at the first of such bytes. -/
theorem cut_yes (l : List UInt8) (c : UInt8) (h : (Lib.cut l [c]).2.2 = true) : l = (Lib.cut l [c]).1 ++ c :: (Lib.cut l [c]).2.1 := by
  unfold Lib.cut at h ⊢
  split
  · rename_i q
    obtain ⟨i, hi⟩ := Int.eq_ofNat_of_zero_le q
    have := MtFrmM.idx_cut c l i hi
    rw [hi]
    exact this
  · rename_i q
    rw [if_neg q] at h
    cases h
theorem cut_no (l : List UInt8) (c : UInt8) (h : (Lib.cut l [c]).2.2 = false) : (Lib.cut l [c]).1 = l := by
  unfold Lib.cut at h ⊢
  split
  · rename_i q
    rw [if_pos q] at h
    cases h
  · rfl
/-- What two digits behind a backslash mean. -/
def two (sg a b : UInt8) : Option UInt8 :=
  match unhex [a, b] 0 with
  | .ok [c] => if c = sg ∨ c = 92 then some c else none
  | _ => none
def unB (sg : UInt8) (go : List UInt8 → Option (List UInt8)) (x : List UInt8 × List UInt8 × Bool) : Option (List UInt8) :=
  if x.2.2 = true then
    match x.2.1 with
    | a :: b :: r => match two sg a b with
      | some c => (go r).map fun t => x.1 ++ c :: t
      | none => none
    | _ => none
  else some x.1
theorem unB_no {sg : UInt8} {go : List UInt8 → Option (List UInt8)} {f b : List UInt8} (h : ∀ a c t, b = a :: c :: t → two sg a c = none) : unB sg go (f, b, true) = none := by
  unfold unB
  rw [if_pos rfl]
  match b, h with
  | [], _ => rfl
  | [_], _ => rfl
  | a :: c :: t, h =>
    show (match two sg a c with
      | some c => (go t).map fun t => f ++ c :: t
      | none => none) = none
    rw [h a c t rfl]
theorem unB_yes {sg : UInt8} {go : List UInt8 → Option (List UInt8)} {f t : List UInt8} {a c x : UInt8} (h : two sg a c = some x) : unB sg go (f, a :: c :: t, true) = (go t).map fun u => f ++ x :: u := by
  unfold unB
  rw [if_pos rfl]
  show (match two sg a c with
      | some c => (go t).map fun t => f ++ c :: t
      | none => none) = _
  rw [h]
/-- What a text means in which backslashes stand for escapes. -/
def unE (sg : UInt8) : Nat → List UInt8 → Option (List UInt8)
  | 0, _ => none
  | n + 1, l => unB sg (unE sg n) (Lib.cut l [92])
def unV : Option (List UInt8) → Value
  | some t => .tuple #[.string (S t), .bool true]
  | none => .tuple #[.string ⟨#[]⟩, .bool false]
def stLen : Value → Nat
  | .string s => s.size
  | _ => 0
theorem map_map_app (X f : List UInt8) (c : UInt8) (o : Option (List UInt8)) : (o.map fun t => f ++ c :: t).map (fun t => X ++ t) = o.map fun t => (X ++ f ++ [c]) ++ t := by
  cases o <;> simp
theorem two_cases (sg a b : UInt8) : (∃ c, unhex [a, b] 0 = .ok [c] ∧ ((c = sg ∨ c = 92) ∧ two sg a b = some c ∨ ¬ (c = sg ∨ c = 92) ∧ two sg a b = none)) ∨ (∃ p, unhex [a, b] 0 = .error p ∧ two sg a b = none) := by
  unfold two
  cases h : unhex [a, b] 0 with
  | error p => exact Or.inr ⟨p, rfl, rfl⟩
  | ok t =>
    have ht : ∃ c, t = [c] := by
      unfold TextMath.unhex at h
      split at h
      · cases h
      · cases h
      · simp only [TextMath.unhex] at h
        injection h with h
        exact ⟨_, h.symm⟩
    obtain ⟨c, rfl⟩ := ht
    refine Or.inl ⟨c, rfl, ?_⟩
    by_cases hc : c = sg ∨ c = 92
    · exact Or.inl ⟨hc, if_pos hc⟩
    · exact Or.inr ⟨hc, if_neg hc⟩
theorem one_eq (a b : UInt8) : ((S [a]).toList == (S [b]).toList) = decide (a = b) := by
  rw [Bool.eq_iff_iff, Lib.toList_data, Lib.toList_data, S_l, S_l]
  simp
set_option maxRecDepth 100000 in
set_option maxHeartbeats 8000000 in
theorem unescape_any (m : Int) (l : List UInt8) (sg : UInt8) (w : World) (hM : MaxL m w) (hl : l.length ≤ 16777216) :
    Calls Tryz.prog 269 #[.string (S l), .string (S [sg])] w fun e w' => e = .returned (unV (unE sg (l.length + 1) l)) ∧ Below w.heap.size w w' := by
  obtain ⟨W0, hW0⟩ : ∃ W0, w.alloc (.cells #[.pointer none, .slice none 0 0] 118) = W0 := ⟨_, rfl⟩
  have hb0 : Below w.heap.size w W0 := by rw [← hW0]; exact (Below.refl _ _).alloc (Nat.le_refl _) _
  have hI0 : IsB w.heap.size w.heap.size [] W0 := by
    have h := Lib.fresh_isBuilder 118 5 w
    rw [hW0] at h
    exact h
  have hM0 : Hid (MaxL m w) := hM
  have hl0 : Hid (l.length ≤ 16777216) := hl
  have hst : Hid (∃ (X : List UInt8) (n : Nat), IsB w.heap.size w.heap.size X W0 ∧ Below w.heap.size w W0 ∧ X.length + l.length ≤ l.length ∧ l.length < n ∧ unE sg (l.length + 1) l = (unE sg n l).map (X ++ ·)) :=
    ⟨[], l.length + 1, hI0, hb0, Nat.le_of_eq (Nat.zero_add _), Nat.lt_succ_self _, by simp⟩
  clear hM hl hb0 hI0
  go_enter Tryz.func269, Tryz.ntmps269
  go_wp2_with fail
  clear hW0
  go_loopw [0] (fun sv wr => ∃ r : List UInt8, sv = .string (S r) ∧ Hid (∃ (X : List UInt8) (n : Nat), IsB w.heap.size w.heap.size X wr ∧ Below w.heap.size w wr ∧ X.length + r.length ≤ l.length ∧ r.length < n ∧ unE sg (l.length + 1) l = (unE sg n r).map (X ++ ·))) (fun sv _ => stLen sv)
  case atStart => exact ⟨l, rfl, hst⟩
  case round =>
    obtain ⟨r, rfl, hQ⟩ := hrel
    clear hst
    obtain ⟨f, b, c, hcut⟩ : ∃ f b c, Lib.cut r [92] = (f, b, c) := ⟨_, _, _, rfl⟩
    obtain ⟨X, n, hB, hb, hXr, hrn, heq⟩ := hQ.out
    have hrl : r.length ≤ 16777216 := by have := hl0.out; omega
    obtain ⟨n, rfl⟩ : ∃ k, n = k + 1 := ⟨n - 1, by omega⟩
    have hC : Hid (Calls Tryz.prog 271 #[.string (S r), .string { data := #[92] }] wr fun e w' => e = .returned (.tuple #[.string (S f), .string (S b), .bool c]) ∧ ∃ k, w' = wr.drewN k) := by
      have h := Tryz.strings_Cut (S r) { data := #[92] } m wr (by rw [S_size]; omega) (hM0.out.below hb)
      rw [S_l] at h
      have e : ({ data := #[92] } : ByteArray).data.toList = [92] := rfl
      rw [e, hcut] at h
      exact h
    have hB1 : ∀ k, IsB w.heap.size w.heap.size X (wr.drewN k) := fun k => isB_below hB ⟨rfl, rfl, rfl, Nat.le_refl _, fun _ _ => rfl⟩
    have hb1 : ∀ k, Below w.heap.size w (wr.drewN k) := fun k => hb.trans ⟨rfl, rfl, rfl, Nat.le_refl _, fun _ _ => rfl⟩
    have hfl : f.length ≤ r.length ∧ (c = true → r = f ++ 92 :: b) ∧ (c = false → f = r) := by
      have h1 := cut_yes r 92
      have h2 := cut_no r 92
      rw [hcut] at h1 h2
      refine ⟨?_, h1, h2⟩
      cases c with
      | true => have h3 : r = f ++ 92 :: b := h1 rfl; rw [h3]; simp
      | false => have h3 : f = r := h2 rfl; rw [h3]; exact Nat.le_refl _
    have hW : ∀ k, Hid (Calls Tryz.prog 85 #[.pointer (some ⟨w.heap.size, 0, none⟩), .string (S f)] (wr.drewN k) fun e w' => e = .returned (.tuple #[.int .i64 (f.length : Int), .nilIface]) ∧ IsB w.heap.size w.heap.size (X ++ f) w' ∧ Below w.heap.size (wr.drewN k) w') := fun k => by
      have h := writeString_any w.heap.size w.heap.size X (S f) (wr.drewN k) (hB1 k) (by rw [S_size]; have := hl0.out; omega) (hb1 k).size
      rw [S_l, S_size] at h
      exact h
    have hunE : unE sg (n + 1) r = unB sg (unE sg n) (f, b, c) := by rw [unE, hcut]
    have hfa : Hid (f.length ≤ r.length ∧ (c = true → r = f ++ 92 :: b) ∧ (c = false → f = r)) := hfl
    have hun : Hid (unE sg (l.length + 1) l = (unE sg (n + 1) r).map (X ++ ·) ∧ X.length + r.length ≤ l.length ∧ r.length < n + 1) := ⟨heq, hXr, hrn⟩
    have hun2 : Hid (unE sg (n + 1) r = unB sg (unE sg n) (f, b, c)) := hunE
    have hbb : Hid (∀ k, Below w.heap.size w (wr.drewN k)) := hb1
    have hMr : Hid (∀ W, Below w.heap.size w W → MaxL m W) := fun W h => hM0.out.below h
    clear hQ hB hb hXr hrn heq hrl hB1 hb1 hfl hunE hcut
    go_wp2_with fail
    refine hC.out.mono ?_
    rintro e w1 ⟨rfl, k, rfl⟩
    have hWk := hW k
    clear hC hW
    go_wp2_with fail
    refine hWk.out.mono ?_
    rintro e w2 ⟨rfl, hB2, hbk⟩
    have hb2 : Hid (Below w.heap.size w w2 ∧ IsB w.heap.size w.heap.size (X ++ f) w2) := ⟨(hbb.out k).trans hbk, hB2⟩
    clear hWk hB2 hbk
    cases c with
    | false =>
      have hS : Hid (Calls Tryz.prog 87 #[.pointer (some ⟨w.heap.size, 0, none⟩)] w2 fun e w' => e = .returned (.string (S (X ++ f))) ∧ Below w.heap.size w2 w') := bString_any w.heap.size w.heap.size (X ++ f) w2 hb2.out.2 hb2.out.1.size
      have hV : Hid (unV (unE sg (l.length + 1) l) = .tuple #[.string (S (X ++ f)), .bool true]) := by
        unfold Hid
        rw [hun.out.1, hun2.out]
        rfl
      clear hun hun2 hfa
      go_wp2_with fail
      refine hS.out.mono ?_
      rintro e w3 ⟨rfl, hb3⟩
      have hfin : Hid (Below w.heap.size w w3) := hb2.out.1.trans hb3
      clear hS hb3
      go_wp2_with fail
      go_ret2
      exact ⟨congrArg Ending.returned hV.out.symm, hfin.out⟩
    | true =>
      have hno : (∀ a c2 t, b = a :: c2 :: t → two sg a c2 = none) → Hid (unV (unE sg (l.length + 1) l) = .tuple #[.string ⟨#[]⟩, .bool false]) := fun h => by
        unfold Hid
        rw [hun.out.1, hun2.out, unB_no h]
        rfl
      by_cases hlen : b.length < 2
      · have hV := hno (fun a c2 t e => absurd hlen (by rw [e]; simp))
        have hsz : ((S b).size : Int) < 2 := by rw [S_size]; omega
        have hfin : Hid (Below w.heap.size w w2) := hb2.out.1
        clear hno hun hun2 hfa hlen
        generalize S b = bb at *
        go_wp2_with fail
        go_ret2
        exact ⟨congrArg Ending.returned hV.out.symm, hfin.out⟩
      · obtain ⟨a, c2, t, rfl⟩ : ∃ a c2 t, b = a :: c2 :: t := by
          match b, hlen with
          | [], h => exact absurd (by simp) h
          | [_], h => exact absurd (by simp) h
          | a :: c2 :: t, _ => exact ⟨a, c2, t, rfl⟩
        obtain ⟨B2, hB2⟩ : ∃ B2, S (a :: c2 :: t) = B2 := ⟨_, rfl⟩
        rw [hB2]
        have hs2 : B2.size = t.length + 2 := by rw [← hB2, S_size]; simp
        have he1 : B2.extract 0 2 = S [a, c2] := by rw [← hB2]; exact S_eq _ _ (by rw [take_l, S_l]; rfl)
        have he2 : B2.extract 2 B2.size = S t := by rw [← hB2]; exact S_eq _ _ (by rw [drop_l, S_l]; rfl)
        have hs3 : ¬ (B2.size : Int) < 2 := by omega
        have hs4 : (2 : Int) ≤ (B2.size : Int) := by omega
        have hU : Hid (Calls Tryz.prog 174 #[.string (B2.extract 0 2)] w2 fun e w' => e = .returned (uhV 2 (unhex [a, c2] 0)) ∧ Below w2.heap.size w2 w') := by
          rw [he1]
          have h := unhex_any (S [a, c2]) w2 (by rw [S_size]; simp)
          rw [S_l, S_size] at h
          exact h
        rcases two_cases sg a c2 with ⟨c, hu, hc⟩ | ⟨p, hu, hc⟩
        · rw [hu] at hU
          have hU' : Hid (Calls Tryz.prog 174 #[.string (B2.extract 0 2)] w2 fun e w' => e = .returned (.tuple #[.string (S [c]), .int .i64 0, .int .i64 2]) ∧ Below w2.heap.size w2 w') := hU
          have q1 := one_eq c sg
          have q2 : ((S [c]).toList == [92]) = decide (c = 92) := by
            have h := one_eq c 92
            rw [Lib.toList_data (S [92]), S_l] at h
            exact h
          have hWc : ∀ W, Below w.heap.size w W → IsB w.heap.size w.heap.size (X ++ f) W → Hid (Calls Tryz.prog 85 #[.pointer (some ⟨w.heap.size, 0, none⟩), .string (S [c])] W fun e w' => e = .returned (.tuple #[.int .i64 1, .nilIface]) ∧ IsB w.heap.size w.heap.size (X ++ f ++ [c]) w' ∧ Below w.heap.size W w') := fun W h1 h2 => by
            have h := writeString_any w.heap.size w.heap.size (X ++ f) (S [c]) W h2 (by rw [S_size, List.length_append]; have := hl0.out; have := hun.out.2.1; have := hfa.out.1; simp; omega) h1.size
            rw [S_l, S_size] at h
            exact h
          have hgo : Hid ((c = sg ∨ c = 92) → ∃ (X' : List UInt8) (n' : Nat), X' = X ++ f ++ [c] ∧ X'.length + t.length ≤ l.length ∧ t.length < n' ∧ unE sg (l.length + 1) l = (unE sg n' t).map (X' ++ ·)) := fun hcc => by
            rcases hc with ⟨_, h2⟩ | ⟨h1, _⟩
            · have hr := hfa.out.2.1 rfl
              have h3 := hun.out.2
              have h4 : r.length = f.length + (t.length + 3) := by rw [hr]; simp
              refine ⟨_, n, rfl, by simp; omega, by omega, ?_⟩
              rw [hun.out.1, hun2.out, unB_yes h2, map_map_app]
            · exact absurd hcc h1
          have hno' : Hid (¬ (c = sg ∨ c = 92) → unV (unE sg (l.length + 1) l) = .tuple #[.string ⟨#[]⟩, .bool false]) := fun hcc => by
            rcases hc with ⟨h1, _⟩ | ⟨_, h2⟩
            · exact absurd h1 hcc
            · exact (hno (fun a' c' t' e => by injection e with e1 e2; injection e2 with e2 e3; subst e1 e2; exact h2)).out
          have hrl : Hid (t.length < r.length) := by
            have hr := hfa.out.2.1 rfl
            unfold Hid
            rw [hr]
            simp
            omega
          generalize S [c] = mc at *
          generalize hms : S [sg] = ms at *
          clear hU hno hun hun2 hfa hlen hB2 hs2 he1 hu hc hbb
          go_wp2_with fail
          refine hU'.out.mono ?_
          rintro e w3 ⟨rfl, hb3⟩
          have h3 : Hid (Below w.heap.size w w3 ∧ IsB w.heap.size w.heap.size (X ++ f) w3) := ⟨hb2.out.1.trans (hb3.mono hb2.out.1.size), isB_below hb2.out.2 hb3⟩
          clear hU' hb3
          by_cases hcc : c = sg ∨ c = 92
          · have hWc3 := hWc w3 h3.out.1 h3.out.2
            obtain ⟨X', n', hX', hg1, hg2, hg3⟩ := hgo.out hcc
            have hgo' : Hid (X' = X ++ f ++ [c] ∧ X'.length + t.length ≤ l.length ∧ t.length < n' ∧ unE sg (l.length + 1) l = (unE sg n' t).map (X' ++ ·)) := ⟨hX', hg1, hg2, hg3⟩
            clear hWc hgo hno' hX' hg1 hg2 hg3
            by_cases hs : c = sg
            · rw [decide_eq_true hs] at q1
              clear q2 hcc hs
              go_wp2_with fail
              refine hWc3.out.mono ?_
              rintro e w4 ⟨rfl, hB4, hb4⟩
              have hfin : Hid (∃ (X : List UInt8) (n : Nat), IsB w.heap.size w.heap.size X w4 ∧ Below w.heap.size w w4 ∧ X.length + t.length ≤ l.length ∧ t.length < n ∧ unE sg (l.length + 1) l = (unE sg n t).map (X ++ ·)) := ⟨X', n', by rw [hgo'.out.1]; exact hB4, h3.out.1.trans hb4, hgo'.out.2.1, hgo'.out.2.2.1, hgo'.out.2.2.2⟩
              clear hWc3 hB4 hb4 hgo'
              go_wp2_with fail
              go_roundw
              case rel =>
                subst hms
                (repeat apply Exists.intro)
                exact ⟨⟨_, rfl, hfin⟩, rfl⟩
              case measure =>
                show (S t).size < (S r).size
                rw [S_size, S_size]
                exact hrl.out
            · have h92 : c = 92 := by rcases hcc with h | h; exact absurd h hs; exact h
              rw [decide_eq_false hs] at q1
              rw [decide_eq_true h92] at q2
              clear hcc hs h92
              go_wp2_with fail
              refine hWc3.out.mono ?_
              rintro e w4 ⟨rfl, hB4, hb4⟩
              have hfin : Hid (∃ (X : List UInt8) (n : Nat), IsB w.heap.size w.heap.size X w4 ∧ Below w.heap.size w w4 ∧ X.length + t.length ≤ l.length ∧ t.length < n ∧ unE sg (l.length + 1) l = (unE sg n t).map (X ++ ·)) := ⟨X', n', by rw [hgo'.out.1]; exact hB4, h3.out.1.trans hb4, hgo'.out.2.1, hgo'.out.2.2.1, hgo'.out.2.2.2⟩
              clear hWc3 hB4 hb4 hgo'
              go_wp2_with fail
              go_roundw
              case rel =>
                subst hms
                (repeat apply Exists.intro)
                exact ⟨⟨_, rfl, hfin⟩, rfl⟩
              case measure =>
                show (S t).size < (S r).size
                rw [S_size, S_size]
                exact hrl.out
          · have hV := hno'.out hcc
            have hs : ¬ c = sg := fun h => hcc (Or.inl h)
            have h92 : ¬ c = 92 := fun h => hcc (Or.inr h)
            rw [decide_eq_false hs] at q1
            rw [decide_eq_false h92] at q2
            have hV' : Hid (unV (unE sg (l.length + 1) l) = .tuple #[.string ⟨#[]⟩, .bool false]) := hV
            clear hWc hgo hno' hV hcc hs h92
            go_wp2_with fail
            go_ret2
            exact ⟨congrArg Ending.returned hV'.out.symm, h3.out.1⟩
        · rw [hu] at hU
          have hU' : Hid (Calls Tryz.prog 174 #[.string (B2.extract 0 2)] w2 fun e w' => e = .returned (.tuple #[.string ⟨#[]⟩, .int .i64 11, .int .i64 (p : Int)]) ∧ Below w2.heap.size w2 w') := hU
          have hV := hno (fun a' c' t' e => by injection e with e1 e2; injection e2 with e2 e3; subst e1 e2; exact hc)
          clear hU hno hun hun2 hfa hlen hB2 hs2 he1 he2 hu hc hbb
          go_wp2_with fail
          refine hU'.out.mono ?_
          rintro e w3 ⟨rfl, hb3⟩
          have h3 : Hid (Below w.heap.size w w3) := hb2.out.1.trans (hb3.mono hb2.out.1.size)
          clear hU' hb3
          go_wp2_with fail
          go_ret2
          exact ⟨congrArg Ending.returned hV.out.symm, h3.out⟩
end Ml
end Go.Proofs.YtoofphmplfbjgaaGreat
