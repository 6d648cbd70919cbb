import Derived.Test.YtjklnmddoiilgaaUnhexLoop
import Derived.Test.YtjklnmddoiilgaaUeD
namespace Go.Proofs.Ytjklnmddoiilgaa
open Go.RowKit
open EscMath
open TextMath (wo pre unhex)

/-- The byte that two digits say with which a text begins. -/
def cod (l : List UInt8) : Option UInt8 := match l with
  | a :: b :: _ => match wo a, wo b with
    | some x, some y => some (UInt8.ofNat (16 * x + y))
    | _, _ => none
  | _ => none
theorem cod_len (l : List UInt8) (z : UInt8) (h : cod l = some z) : 2 ≤ l.length := by
  match l, h with
  | a :: b :: r, _ => simp
theorem une_cod (t : List UInt8) (k : Nat) : une (37 :: t) k = match cod t with
    | some z => pre [z] (une (t.drop 2) (k + 3))
    | none => .error k := by
  match t with
  | [] => simp [cod, une_short]
  | [a] => simp [cod, une_short]
  | a :: b :: r =>
    cases ha : wo a with
    | none => simp [cod, ha, une_bada a b r k (.inl ha)]
    | some x =>
      cases hb : wo b with
      | none => simp [cod, ha, hb, une_bada a b r k (.inr hb)]
      | some y => simp [cod, ha, hb, une_code a b r k x y ha hb]
theorem unhex_cod (l : List UInt8) (h : 2 ≤ l.length) : (∃ z, cod l = some z ∧ unhex (l.take 2) 0 = .ok [z]) ∨ (cod l = none ∧ ∃ p, unhex (l.take 2) 0 = .error p) := by
  match l, h with
  | a :: b :: r, _ =>
    show (∃ z, cod (a :: b :: r) = some z ∧ unhex [a, b] 0 = .ok [z]) ∨ (cod (a :: b :: r) = none ∧ ∃ p, unhex [a, b] 0 = .error p)
    cases ha : wo a with
    | none => right; exact ⟨by simp [cod, ha], _, TextMath.unhex_bad a [b] 0 ha⟩
    | some x =>
      cases hb : wo b with
      | none => right; exact ⟨by simp [cod, ha, hb], _, TextMath.unhex_bad2 a b [] 0 x ha hb⟩
      | some y => left; exact ⟨UInt8.ofNat (16 * x + y), by unfold cod; simp only [ha, hb], by rw [TextMath.unhex_pair a b [] 0 x y ha hb]; rfl⟩
/-- What coded answers. -/
def cdV : Option UInt8 → Value
  | some z => .tuple #[.int .u8 (z.toNat : Int), .bool true]
  | none => .tuple #[.int .u8 0, .bool false]
theorem S_one (z : UInt8) (h : 0 < (S [z]).size) : (S [z])[0] = z := rfl

set_option maxHeartbeats 1000000 in
theorem coded_any (r : ByteArray) (w : World) (hr : r.size ≤ 4194304) :
    Calls Try.prog 14 #[.string r] w fun e w' => e = .returned (cdV (cod r.data.toList)) ∧ Below w.heap.size w w' := by
  by_cases h2 : r.size < 2
  · have hc : Hid (cod r.data.toList = none) := by
      unfold Hid
      cases h : cod r.data.toList with
      | none => rfl
      | some z => have := cod_len _ _ h; rw [size_l] at this; omega
    go_enter Try.func14, Try.ntmps14
    go_wp2_with fail
    go_ret2
    exact ⟨by rw [hc.out]; rfl, Below.refl _ _⟩
  · have hu : Hid (Calls Try.prog 22 #[.string (r.extract 0 2)] w fun e w' => e = .returned (uhV 2 (unhex (r.data.toList.take 2) 0)) ∧ Below w.heap.size w w') := by
      have hsz : (r.extract 0 2).size = 2 := by rw [ByteArray.size_extract]; omega
      have := unhex_any (r.extract 0 2) w (by omega)
      rw [hsz, take_l] at this
      exact this
    have hr2 : 2 ≤ r.size := by omega
    rcases unhex_cod r.data.toList (by rw [size_l]; omega) with ⟨z, h1, h3⟩ | ⟨h1, p, h3⟩
    · rw [h3] at hu
      have h1' : Hid (cod r.data.toList = some z) := h1
      have hS1 : (S [z]).size = 1 := rfl
      have hS : (S [z])[0]'(by rw [hS1]; decide) = z := rfl
      clear h1 h3 h2
      go_enter Try.func14, Try.ntmps14
      go_wp2_with (go_at_call 22; refine hu.out.mono ?_; rintro e w1 ⟨rfl, hb1⟩; unfold uhV)
      go_ret2
      exact ⟨by rw [h1'.out]; rfl, hb1⟩
    · rw [h3] at hu
      have h1' : Hid (cod r.data.toList = none) := h1
      clear h1 h3 h2
      go_enter Try.func14, Try.ntmps14
      go_wp2_with (go_at_call 22; refine hu.out.mono ?_; rintro e w1 ⟨rfl, hb1⟩; unfold uhV)
      go_ret2
      exact ⟨by rw [h1'.out]; rfl, hb1⟩
theorem own_kept {B : Nat} {e : TypeId} {k : Nat} {v : Value} {n : Nat} {xs : List Value} {w w' : World} (h : w.ownsRow B e k v n xs) (hb : Below w.heap.size w w') : w'.ownsRow B e k v n xs :=
  h.kept (row := none) ⟨hb.os, hb.tape, hb.output, hb.size, fun j hj _ => hb.block j hj⟩ (by cases hv : v.ownBlock <;> simp)
/-- What Unescape answers. -/
def unV : Except Nat (List UInt8) → Value
  | .ok t => .tuple #[.string (S t), .int .i64 0, .int .i64 0]
  | .error p => .tuple #[.string ⟨#[]⟩, .int .i64 182, .int .i64 (p : Int)]

set_option maxHeartbeats 1000000 in
theorem unescape_any (s : ByteArray) (w : World) (hs : s.size ≤ 4194304) :
    Calls Try.prog 6 #[.string s] w fun e w' => e = .returned (unV (une s.data.toList 0)) ∧ Below w.heap.size w w' := by
  have hL : Hid (s.data.toList.length = s.size) := size_l s
  obtain ⟨i0, hi, hz0, hz1, hz2⟩ := info_parts info_u8
  go_enter Try.func6, Try.ntmps6
  go_wp2_with (at_make; refine wpList_make_own _ rfl _ _ 30 rfl w.heap.size 5 i0 (.int .u8 0) 1 Try.underlying30 hi hz0 hz1 _ _ _ s.size rfl rfl ?_ ?_ ?_ ?_ ?_; (omega); (rw [hz2]; omega); (unfold maxLen; omega); (exact Nat.le_refl _); intro w1 hown1 hgrow1)
  have hb1 : Below w.heap.size w w1 := (Below.refl _ _).grown hgrow1 (Nat.le_refl _) (fun k h => by cases h)
  go_loopw [5, 6] (fun out i wr => ∃ (k m : Nat) (o : List UInt8), k ≤ s.size ∧ m ≤ k ∧ i = .int .i64 k ∧ out = .slice (some ⟨w.heap.size, 0, none⟩) m s.size ∧ Hid (Below w.heap.size w wr) ∧ Hid (w.heap.size < wr.heap.size) ∧ Hid (wr.ownsRow w.heap.size 5 1 (.slice (some ⟨w.heap.size, 0, none⟩) m s.size) m (bv o))
      ∧ Hid (une s.data.toList 0 = pre o (une (s.data.toList.drop k) k))) (fun _ i _ => s.size - (intOf i).toNat)
  case atStart => exact ⟨0, 0, [], Nat.zero_le _, Nat.le_refl _, rfl, rfl, hb1, (hown1.lt _ rfl).2, hown1, by unfold Hid; simp [TextMath.pre_nil]⟩
  case round =>
    clear hown1 hgrow1 hb1
    obtain ⟨k, m, o, hk, hm, rfl, rfl, hb, hgs, hown, hun⟩ := hrel
    by_cases hlt : k < s.size
    · have hdr : Hid (s.data.toList.drop k = s[k] :: s.data.toList.drop (k + 1)) := List.drop_eq_getElem_cons (by rw [hL.out]; exact hlt)
      have hpc : Hid (∀ w, Calls Try.prog 13 #[.int .u8 (s[k].toNat : Int)] w fun e w' => e = .returned (.bool (pl s[k])) ∧ w = w') := fun w => uPlain_any s[k] w
      obtain ⟨c, hc⟩ : ∃ c, s[k] = c := ⟨_, rfl⟩
      rw [hc] at hdr hpc
      by_cases h37 : c = 37
      · subst h37
        have hq : ((s[k].toNat : Int) != 37) = false := by rw [hc]; rfl
        have hcd : Hid (∀ w, Calls Try.prog 14 #[.string (s.extract (k + 1) s.size)] w fun e w' => e = .returned (cdV (cod (s.data.toList.drop (k + 1)))) ∧ Below w.heap.size w w') := by
          intro w
          have := coded_any (s.extract (k + 1) s.size) w (by rw [ByteArray.size_extract]; omega)
          rw [drop_l] at this
          exact this
        have hco := une_cod (s.data.toList.drop (k + 1)) k
        rw [← hdr.out] at hco
        have k1 : (k : Int) + 1 ≤ (s.size : Int) := by omega
        cases hz : cod (s.data.toList.drop (k + 1)) with
        | none =>
          rw [hz] at hcd hco
          have HR : Hid (une s.data.toList 0 = .error k) := by unfold Hid; rw [hun.out, hco]; rfl
          clear hz hun hco hpc hdr hown
          go_wp2_with (go_at_call 14; refine (hcd.out _).mono ?_; rintro e w2 ⟨rfl, hb2⟩; unfold cdV)
          go_ret3
          exact ⟨ret_tup (by rw [HR.out]; rfl), hb.out.trans (hb2.mono (Nat.le_of_lt hgs.out))⟩
        | some z =>
          have hk3 : k + 3 ≤ s.size := by have := cod_len _ _ hz; rw [List.length_drop, hL.out] at this; omega
          rw [hz] at hcd hco
          have HU : Hid (une s.data.toList 0 = pre (o ++ [z]) (une (s.data.toList.drop (k + 3)) (k + 3))) := by
            unfold Hid
            rw [hun.out, hco]
            simp only [TextMath.pre_pre, List.drop_drop]
          have hnew : Hid (bv (o ++ [z]) = bv o ++ [.int .u8 (z.toNat : Int)]) := by unfold Hid; rw [bv_app]; rfl
          clear hz hun hco hpc hdr
          have hroom : m + 1 ≤ s.size := by omega
          go_wp2_with (first | (go_at_call 14; refine (hcd.out _).mono ?_; rintro e w2 ⟨rfl, hb2⟩; unfold cdV; have hown2 := own_kept hown.out hb2) | (at_builtin; refine wpList_append_fits _ rfl _ _ 30 rfl w.heap.size 5 i0 1 Try.underlying30 hi hz1 w.heap.size m s.size _ rfl (hown2.alloc _) ⟨w2.heap.size, 0, none⟩ 1 1 [.int .u8 (z.toNat : Int)] rfl rfl ?_ ?_ ?_ ?_; exact cell_one_new _ _ _; (intro u hu; simp at hu; subst hu; rfl); exact hroom; intro w1 hown1 hgrow1))
          have hgs2 : w.heap.size < w2.heap.size := Nat.lt_of_lt_of_le hgs.out hb2.size
          have HB : Hid (Below w.heap.size w w1) := ((hb.out.trans (hb2.mono (Nat.le_of_lt hgs.out))).alloc (Nat.le_of_lt hgs2) _).grown hgrow1 (by simp; omega) (fun k h => by injection h with h; omega)
          have HG : Hid (w.heap.size < w1.heap.size) := by have := hgrow1.size; simp at this; unfold Hid; omega
          have HO : Hid (w1.ownsRow w.heap.size 5 1 (.slice (some ⟨w.heap.size, 0, none⟩) (m + 1) s.size) (m + 1) (bv (o ++ [z]))) := by unfold Hid; rw [hnew.out]; exact hown1
          clear hown1 hgrow1 hown2 hb2 hgs2
          go_roundw
          case rel => exact ⟨k + 3, m + 1, o ++ [z], hk3, by omega, by go_num, rfl, HB, HG, HO, HU⟩
          case measure => simp [intOf]; omega
      · have hq : ((c.toNat : Int) != 37) = true := by
          rw [bne_iff_ne]
          intro h
          exact h37 (UInt8.toNat_inj.1 (by have : c.toNat = 37 := by omega
                                           rw [this]; rfl))
        cases hp : pl c with
        | false =>
          have HR : Hid (une s.data.toList 0 = .error k) := by unfold Hid; rw [hun.out, hdr.out, une_not c _ k h37 hp]; rfl
          rw [hp] at hpc
          clear hp h37 hun hdr hown
          go_wp2_with (go_at_call 13; refine (hpc.out _).mono ?_; rintro e w2 ⟨rfl, rfl⟩)
          go_ret3
          exact ⟨ret_tup (by rw [HR.out]; rfl), hb.out⟩
        | true =>
          have HU : Hid (une s.data.toList 0 = pre (o ++ [c]) (une (s.data.toList.drop (k + 1)) (k + 1))) := by
            unfold Hid
            rw [hun.out, hdr.out, une_plain c _ k h37 hp, TextMath.pre_pre]
          have hnew : Hid (bv (o ++ [c]) = bv o ++ [.int .u8 (c.toNat : Int)]) := by unfold Hid; rw [bv_app]; rfl
          rw [hp] at hpc
          clear hp h37 hun hdr
          have hroom : m + 1 ≤ s.size := by omega
          go_wp2_with (first | (go_at_call 13; refine (hpc.out _).mono ?_; rintro e w2 ⟨rfl, rfl⟩) | (at_builtin; refine wpList_append_fits _ rfl _ _ 30 rfl w.heap.size 5 i0 1 Try.underlying30 hi hz1 w.heap.size m s.size _ rfl (hown.out.alloc _) ⟨wr.heap.size, 0, none⟩ 1 1 [.int .u8 (c.toNat : Int)] rfl rfl ?_ ?_ ?_ ?_; exact cell_one_new _ _ _; (intro u hu; simp at hu; subst hu; rfl); exact hroom; intro w1 hown1 hgrow1))
          have hgs2 : w.heap.size < wr.heap.size := hgs.out
          have HB : Hid (Below w.heap.size w w1) := (hb.out.alloc (Nat.le_of_lt hgs2) _).grown hgrow1 (by simp; omega) (fun k h => by injection h with h; omega)
          have HG : Hid (w.heap.size < w1.heap.size) := by have := hgrow1.size; simp at this; unfold Hid; omega
          have HO : Hid (w1.ownsRow w.heap.size 5 1 (.slice (some ⟨w.heap.size, 0, none⟩) (m + 1) s.size) (m + 1) (bv (o ++ [c]))) := by unfold Hid; rw [hnew.out]; exact hown1
          clear hown1 hgrow1 hgs2
          go_roundw
          case rel => exact ⟨k + 1, m + 1, o ++ [c], hlt, by omega, by go_num, rfl, HB, HG, HO, HU⟩
          case measure => simp [intOf]; omega
    · have hke : k = s.size := by omega
      subst hke
      have HR : Hid (une s.data.toList 0 = .ok o) := by
        unfold Hid
        rw [hun.out, List.drop_eq_nil_of_le (by rw [hL.out]; exact Nat.le_refl _)]
        simp [une, pre]
      have hback := own_back (P := Try.prog) wr w.heap.size 30 9 5 w.heap.size _ _ _ Try.underlying30 Try.underlying5 Try.underlying9 hown.out
      clear hown hun
      go_wp2_with fail
      go_ret3
      exact ⟨ret_tup (by rw [HR.out]; rfl), hb.out⟩
end Go.Proofs.Ytjklnmddoiilgaa
