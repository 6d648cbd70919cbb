import Derived.Test.YtkcncepfncdbhaaDoorBbGrp
import Derived.Test.YtkcncepfncdbhaaDoorRefHex
import Derived.Lib.AppendStr
namespace Go.Proofs.YtkcncepfncdbhaaDoor
open Go.RowKit
open TextMath (al grp b64 bo wv ch Gd gF dec unb preB thr gn)
set_option linter.unusedVariables false

/-- A row of bytes of the call's own. -/
def OwnB (W : World) (B : Nat) (v : Value) (l : List UInt8) : Prop := W.ownsRow B 5 1 v l.length (bv l)
theorem ownB_conv {w : World} {B : Nat} {v : Value} {l : List UInt8} (h : OwnB w B v l) : (convert 30 9 v).run Tryd.prog w = .ok (.string (S l)) w :=
  own_back_any w B 30 9 5 v l.length l Tryd.underlying30 Tryd.underlying5 Tryd.underlying9 h
theorem ownB_below {w w' : World} {B : Nat} {v : Value} {l : List UInt8} (h : OwnB w B v l) (hb : Below w.heap.size w w') : OwnB w' B v l := by
  rcases h with ⟨h1, ⟨rfl, h2⟩ | ⟨g, cap, cur, rfl, h3, h4, h5⟩⟩
  · exact ⟨h1, Or.inl ⟨rfl, h2⟩⟩
  · have hg : g < w.heap.size := by
      rcases Nat.lt_or_ge g w.heap.size with h' | h'
      · exact h'
      · rw [Array.getElem?_eq_none h'] at h4; cases h4
    exact ⟨h1, Or.inr ⟨g, cap, cur, rfl, h3, by rw [hb.block g hg]; exact h4, h5⟩⟩
theorem ownB_slice {w : World} {B : Nat} {v : Value} {l : List UInt8} (h : OwnB w B v l) : ∃ a n c, v = .slice a n c := by
  rcases h.2 with ⟨rfl, _⟩ | ⟨g, cap, cur, rfl, _⟩
  · exact ⟨_, _, _, rfl⟩
  · exact ⟨_, _, _, rfl⟩
/-- A text's bytes appended. -/
theorem push_strB (w : World) {ops : Array Oper} {rest : List Oper} {o : Oper} {a : Act} {Q : Exit → Act → World → Prop} (hgd : o.guard = none) (s x : Operand)
    (ho : o.op = .call { callee := .builtin .append, args := #[s, x], argTypes := #[30, 9] }) (B : Nat) (v : Value) (l : List UInt8) (str : ByteArray)
    (hs : a.eval s = v) (hx : a.eval x = .string str) (hown : OwnB w B v l) (hB : B ≤ w.heap.size) (hl : l.length + str.size ≤ 1099511627776)
    (h : ∀ v' w', OwnB w' B v' (l ++ str.data.toList) → Below B w w' → wpList Tryd.prog ops Q rest (a.put o.dst v') w') :
    wpList Tryd.prog ops Q (o :: rest) a w := by
  obtain ⟨i0, hi, hz0, hz1, hz2⟩ := info_parts info_u8
  refine Lib.wpList_append_own_string _ hgd s x 30 9 ho B 5 i0 Tryd.underlying30 Tryd.underlying9 hi hz0 hz1 hz2 v l.length (bv l) hs hown str hx (by unfold maxLen; omega) (by omega) hB ?_
  intro v' w' h1 h2 _
  refine h v' w' ?_ ?_
  · unfold OwnB
    rw [bv_app, List.length_append, size_l]
    exact h1
  · refine (Below.refl _ _).grown h2 hB ?_
    intro k hk
    exact (World.ownsRow.lt (show w.ownsRow B 5 1 v l.length (bv l) from hown) _ hk).1

theorem ext3 (s : ByteArray) (k m : Nat) (hm : m = k + 3 ∨ (m = s.size ∧ s.size < k + 3)) : (s.extract k m).data.toList = (s.data.toList.drop k).take 3 := by
  rcases hm with rfl | ⟨rfl, h⟩
  · rw [Lib.extract_data]; congr 1; omega
  · rw [drop_l, List.take_of_length_le (by rw [List.length_drop, size_l]; omega)]
theorem ext_size (s : ByteArray) (k m : Nat) (h1 : k ≤ m) (h2 : m ≤ s.size) : (s.extract k m).size = m - k := by
  rw [ByteArray.size_extract]
  omega

set_option maxHeartbeats 1000000 in
theorem rBase64_any (s : ByteArray) (w : World) (hm : s.size ≤ 8388608) :
    Calls Tryd.prog 19 #[.string s] w fun e w' => e = .returned (.string (S (b64 s.data.toList))) ∧ Below w.heap.size w w' := by
  have hL : Hid (s.data.toList.length = s.size) := size_l s
  go_enter Tryd.func19, Tryd.ntmps19
  go_wp2_with fail
  go_loopw [3, 4] (fun bv' iv wr => ∃ (k : Nat) (o : List UInt8), k ≤ s.size + 2 ∧ 3 * o.length ≤ 4 * k ∧ iv = .int .i64 (k : Int) ∧ Hid (OwnB wr w.heap.size bv' o) ∧ Hid (Below w.heap.size w wr) ∧ Hid (b64 s.data.toList = o ++ b64 (s.data.toList.drop k))) (fun _ iv _ => s.size + 3 - (intOf iv).toNat)
  case atStart => exact ⟨0, [], by omega, by simp, rfl, World.ownsRow_nil _ _ _ _, Below.refl _ _, by unfold Hid; simp⟩
  case round =>
    obtain ⟨k, o, hk, ho, rfl, hown, hB, hb⟩ := hrel
    obtain ⟨va, vn, vc, rfl⟩ := ownB_slice hown.out
    by_cases hlt : k < s.size
    · have hne : s.data.toList.drop k ≠ [] := by
        intro e
        have := congrArg List.length e
        rw [List.length_drop, hL.out] at this
        simp at this
        omega
      have hstep := TextMath.b64_step _ hne
      rw [List.drop_drop] at hstep
      have hgl := TextMath.grp_len _ hne
      have k1 : (k : Int) < (s.size : Int) := Int.ofNat_lt.2 hlt
      have k0 : (0 : Int) ≤ (k : Int) := Int.natCast_nonneg _
      have key : ∀ m : Nat, k < m → m ≤ s.size → (m = k + 3 ∨ (m = s.size ∧ s.size < k + 3)) →
          Calls Tryd.prog 27 #[.string (s.extract k m)] wr fun e w' => e = .returned (.string (S (grp ((s.data.toList.drop k).take 3)))) ∧ Below wr.heap.size wr w' := by
        intro m h1 h2 h3
        have h := group_any (s.extract k m) wr (by rw [ext_size _ _ _ (by omega) h2]; omega) (by rw [ext_size _ _ _ (by omega) h2]; omega)
        rw [ext3 s k m h3] at h
        exact h
      have hfin : Hid (b64 s.data.toList = (o ++ grp ((s.data.toList.drop k).take 3)) ++ b64 (s.data.toList.drop (k + 3))) := by
        unfold Hid
        rw [hb.out, hstep, List.append_assoc]
      have hgl' : Hid ((grp ((s.data.toList.drop k).take 3)).length = 4) := hgl
      clear hstep hne hgl
      generalize grp ((s.data.toList.drop k).take 3) = G at *
      by_cases h3 : k + 3 ≤ s.size
      · have hc := key (k + 3) (by omega) h3 (Or.inl rfl)
        have e3 : ¬ ((k : Int) + 3 > (s.size : Int)) := by omega
        have e4 : ((k + 3 : Nat) : Int) = (k : Int) + 3 := by omega
        clear key
        go_wp2_with (first | (go_at_call 27; refine hc.mono ?_; rintro e w1 ⟨rfl, hb1⟩) | (at_builtin; refine push_strB _ rfl _ _ rfl w.heap.size _ o (S G) rfl rfl ?_ ?_ ?_ ?_; (exact ownB_below hown.out hb1); (exact Nat.le_trans hB.out.size hb1.size); (rw [S_size, hgl'.out]; omega); intro v2 w2 ho2 hb2))
        go_roundw
        case rel =>
          refine ⟨k + 3, o ++ G, by omega, by rw [List.length_append, hgl'.out]; omega, by go_num, ?_, ?_, hfin⟩
          · rw [S_l] at ho2
            exact ho2
          · exact (hB.out.trans (hb1.mono hB.out.size)).trans hb2
        case measure => simp [intOf]; omega
      · have hc := key s.size hlt (Nat.le_refl _) (Or.inr ⟨rfl, by omega⟩)
        have e3 : (k : Int) + 3 > (s.size : Int) := by omega
        clear key
        go_wp2_with (first | (go_at_call 27; refine hc.mono ?_; rintro e w1 ⟨rfl, hb1⟩) | (at_builtin; refine push_strB _ rfl _ _ rfl w.heap.size _ o (S G) rfl rfl ?_ ?_ ?_ ?_; (exact ownB_below hown.out hb1); (exact Nat.le_trans hB.out.size hb1.size); (rw [S_size, hgl'.out]; omega); intro v2 w2 ho2 hb2))
        go_roundw
        case rel =>
          refine ⟨k + 3, o ++ G, by omega, by rw [List.length_append, hgl'.out]; omega, by go_num, ?_, ?_, hfin⟩
          · rw [S_l] at ho2
            exact ho2
          · exact (hB.out.trans (hb1.mono hB.out.size)).trans hb2
        case measure => simp [intOf]; omega
    · have hd : Hid (b64 s.data.toList = o) := by
        unfold Hid
        rw [hb.out, List.drop_eq_nil_of_le (by rw [hL.out]; omega)]
        simp [b64]
      have hcv := ownB_conv hown.out
      have k1 : ¬ (k : Int) < (s.size : Int) := by omega
      go_wp2_with fail
      go_ret
      exact ⟨by rw [hd.out]; rfl, hB.out⟩

theorem ALP_pos : ∀ c : Fin 256, pos ALP.data.toList (UInt8.ofNat c.val) = (match bo (UInt8.ofNat c.val) with | some n => (n : Int) | none => -1) := by decide +kernel
theorem ALP_wv (c : UInt8) : pos ALP.data.toList c = if ch c = true then (wv c : Int) else -1 := by
  have h := ALP_pos ⟨c.toNat, c.toNat_lt⟩
  have e : UInt8.ofNat c.toNat = c := by simp
  simp only [e] at h
  rw [h]
  unfold ch wv
  cases bo c <;> rfl
/-- The number that the first k characters say. -/
def bN (l : List UInt8) : Nat → Nat
  | 0 => 0
  | k + 1 => bN l k * 64 + wv (l.getD k 0)
theorem bN_lt (l : List UInt8) (k : Nat) (h : k ≤ 4) : bN l k < 16777216 ∧ (k ≤ 3 → bN l k < 262144) := by
  have h1 : bN l 1 = bN l 0 * 64 + wv (l.getD 0 0) := rfl
  have h2 : bN l 2 = bN l 1 * 64 + wv (l.getD 1 0) := rfl
  have h3 : bN l 3 = bN l 2 * 64 + wv (l.getD 2 0) := rfl
  have h4 : bN l 4 = bN l 3 * 64 + wv (l.getD 3 0) := rfl
  have h0 : bN l 0 = 0 := rfl
  have b0 := TextMath.wv_lt (l.getD 0 0)
  have b1 := TextMath.wv_lt (l.getD 1 0)
  have b2 := TextMath.wv_lt (l.getD 2 0)
  have b3 := TextMath.wv_lt (l.getD 3 0)
  have : k = 0 ∨ k = 1 ∨ k = 2 ∨ k = 3 ∨ k = 4 := by omega
  rcases this with rfl | rfl | rfl | rfl | rfl <;> omega
theorem byteW (n : Int) (m : Nat) (h : n = m) : IntKind.u8.wrap n = ((UInt8.ofNat m).toNat : Int) := by
  subst h
  rw [UInt8.toNat_ofNat']
  simp [IntKind.wrap, IntKind.bits, IntKind.signed]

/-- The bytes of a good group; of another none. -/
def bO (g : List UInt8) : List UInt8 := if Gd g = true then dec g else []
theorem bO_yes {g : List UInt8} (h : Gd g = true) : bO g = dec g := by unfold bO; rw [if_pos h]
theorem bO_no {g : List UInt8} (h : Gd g = false) : bO g = [] := by unfold bO; rw [if_neg (by rw [h]; decide)]
end Go.Proofs.YtkcncepfncdbhaaDoor
