import Derived.Test.YteiikipldejeeaaDoorAsM
import Derived.Test.YteiikipldejeeaaDoorFold
import Derived.Test.YteiikipldejeeaaDoorAtFind
import Derived.Test.YteiikipldejeeaaDoorAtCanl
import Derived.Test.YteiikipldejeeaaDoorAtSame
namespace Go.Proofs.YteiikipldejeeaaDoor
open Go.RowKit
open TextMath (fold lo)
set_option linter.unusedVariables false

/-- A list of truths, as a reader meets it. -/
def Boos (w : World) (a : Option Addr) (n : Nat) (U : Nat → Bool) : Prop := ∀ i, i < n → ∃ b off, a = some ⟨b, off, none⟩ ∧ w.cell? ⟨b, off + i, none⟩ = some (.bool (U i))
theorem Boos.below {w w' : World} {a : Option Addr} {n : Nat} {U : Nat → Bool} (h : Boos w a n U) (hb : Below w.heap.size w w') : Boos w' a n U := fun i hi => by
  obtain ⟨b, off, e, hc⟩ := h i hi
  exact ⟨b, off, e, by rw [hb.cell (World.block_lt_of_cell? w _ hc)]; exact hc⟩
def ups (n : Nat) (U : Nat → Bool) (i : Nat) : Bool := decide (i < n) && U i

set_option maxRecDepth 100000 in
set_option maxHeartbeats 1000000 in
theorem turned_any (s : ByteArray) (a : Option Addr) (n c : Nat) (U : Nat → Bool) (w : World) (hm : s.size ≤ 4194304) (hU : Boos w a n U) :
    Calls Tryd.prog 5 #[.string s, .slice a n c] w fun e w' => e = .returned (.string (S (trn (ups n U) s.data.toList))) ∧ Below w.heap.size w w' := by
  have hL : Hid (s.data.toList.length = s.size) := size_l s
  obtain ⟨T, hT⟩ : ∃ T, trn (ups n U) s.data.toList = T := ⟨_, rfl⟩
  have hTl : Hid (T.length = s.data.toList.length) := by rw [← hT]; exact trn_len _ _
  have hTg : Hid (∀ k (h : k < T.length) (h' : k < s.data.toList.length), T[k] = if ups n U k = true then up1 s.data.toList[k] else s.data.toList[k]) := by
    subst hT
    exact fun k h h' => trn_get _ _ k h
  rw [hT]
  clear hT
  have hU' : Hid (Boos w a n U) := hU
  obtain ⟨W1, cap, hconv, hb1, hz1, hr1⟩ := conv_bytes (P := Tryd.prog) w 9 42 5 s Tryd.underlying9 Tryd.underlying42 Tryd.underlying5
  clear hU
  go_enter Tryd.func5, Tryd.ntmps5
  go_wp2
  go_loopw [6] (fun i wr => ∃ k : Nat, k ≤ s.size ∧ i = .int .i64 k ∧ Below w.heap.size w wr ∧ BRow wr w.heap.size (mixL T s.data.toList k)) (fun i _ => s.size - (intOf i).toNat)
  case atStart => exact ⟨0, Nat.zero_le _, rfl, hb1, by simpa [mixL] using hr1⟩
  case round =>
    clear hconv hr1 hz1 hb1
    obtain ⟨k, hk, rfl, hb, hr⟩ := hrel
    by_cases hlt : k < s.size
    · have hkl : k < s.data.toList.length := by rw [hL.out]; exact hlt
      have hkt : k < (mixL T s.data.toList k).length := by rw [mix_len _ _ _ hTl.out (by omega)]; exact hkl
      obtain ⟨hc, hf⟩ := hr k hkt
      rw [mix_get _ _ _ hTl.out hkl hkt] at hc
      have hTk := hTg.out k (by rw [hTl.out]; exact hkl) hkl
      have hset := hr.set k hkt (T[k]'(by rw [hTl.out]; exact hkl))
      rw [mix_set _ _ _ hTl.out hkl] at hset
      have hkeep := mix_keep T s.data.toList k hTl.out hkl
      rw [hTk] at hset hkeep
      clear hTk hkt
      generalize s.data.toList[k] = c at *
      have hc256 : c.toNat < 256 := c.toNat_lt
      have k0 : (0 : Int) ≤ (k : Int) := Int.natCast_nonneg _
      have k1 : (k : Int) < (s.size : Int) := Int.ofNat_lt.2 hlt
      by_cases hkn : k < n
      · have k2 : (k : Int) < (n : Int) := Int.ofNat_lt.2 hkn
        obtain ⟨bb, off, rfl, hub⟩ := (hU'.out.below hb) k hkn
        have hup : ups n U k = U k := by unfold ups; rw [decide_eq_true hkn, Bool.true_and]
        rw [hup] at hset hkeep
        clear hup
        generalize U k = uk at *
        cases uk with
        | true =>
          rw [if_pos rfl] at hset
          by_cases h1 : (97 : Int) ≤ c.toNat ∧ (c.toNat : Int) ≤ 122
          · rw [up_big c h1.1 h1.2] at hset
            obtain ⟨h1, h2⟩ := h1
            have HS : Hid (BRow _ _ _) := hset
            have c0 : (0 : Int) ≤ (c.toNat : Int) - 32 := by omega
            have c1 : (c.toNat : Int) - 32 < 256 := by omega
            clear hset hkeep hr
            go_wp2
            go_roundw
            case rel => exact ⟨k + 1, by omega, by go_num, hb.setCell (Nat.le_refl _) _, HS.out⟩
            case measure => simp [intOf]; omega
          · have hke := hkeep (by rw [if_pos rfl]; exact up_small c h1)
            have HS : Hid (BRow wr w.heap.size (mixL T s.data.toList (k + 1))) := by rw [hke]; exact hr
            clear hset hkeep hr hke
            by_cases h2 : (97 : Int) ≤ c.toNat
            · have h3 : ¬ (c.toNat : Int) ≤ 122 := fun h => h1 ⟨h2, h⟩
              clear h1
              go_wp2
              go_roundw
              case rel => exact ⟨k + 1, by omega, by go_num, hb, HS.out⟩
              case measure => simp [intOf]; omega
            · clear h1
              go_wp2
              go_roundw
              case rel => exact ⟨k + 1, by omega, by go_num, hb, HS.out⟩
              case measure => simp [intOf]; omega
        | false =>
          have hke := hkeep (by simp)
          have HS : Hid (BRow wr w.heap.size (mixL T s.data.toList (k + 1))) := by rw [hke]; exact hr
          clear hset hkeep hr hke
          go_wp2
          go_roundw
          case rel => exact ⟨k + 1, by omega, by go_num, hb, HS.out⟩
          case measure => simp [intOf]; omega
      · have k2 : ¬ (k : Int) < (n : Int) := by omega
        have hup : ups n U k = false := by unfold ups; rw [decide_eq_false hkn, Bool.false_and]
        rw [hup] at hset hkeep
        have hke := hkeep (by simp)
        have HS : Hid (BRow wr w.heap.size (mixL T s.data.toList (k + 1))) := by rw [hke]; exact hr
        clear hset hkeep hr hke hup
        go_wp2
        go_roundw
        case rel => exact ⟨k + 1, by omega, by go_num, hb, HS.out⟩
        case measure => simp [intOf]; omega
    · have hk2 : k = s.size := by omega
      subst hk2
      rw [mix_end _ _ _ hTl.out (by rw [hL.out]; exact Nat.le_refl _)] at hr
      have hback := conv_back (P := Tryd.prog) wr 42 9 5 w.heap.size s.size cap T Tryd.underlying42 Tryd.underlying5 Tryd.underlying9 (by rw [hTl.out, hL.out]) hr
      clear hr
      go_wp2
      go_ret
      exact ⟨rfl, hb⟩

def AlIs (W : World) (x : ByteArray) (al : Value) : Prop := (x.toList = [] ∧ al = .slice none 0 0) ∨ (¬ x.toList = [] ∧ ∃ g c, al = .slice (some ⟨g, 0, none⟩) 1 c ∧ W.cell? ⟨g, 0, none⟩ = some (.string x))
theorem AlIs.below {W W' : World} {x : ByteArray} {al : Value} (h : AlIs W x al) (hb : Below W.heap.size W W') : AlIs W' x al := by
  rcases h with h | ⟨h1, g, c, h2, h3⟩
  · exact Or.inl h
  · exact Or.inr ⟨h1, g, c, h2, by rw [hb.cell (World.block_lt_of_cell? W _ h3)]; exact h3⟩
theorem AlIs.same {W : World} {x : ByteArray} {a b : Value} (h : AlIs W x a) (h' : AlIs W x b) : SameAl W a b := by
  rcases h with ⟨h1, h2⟩ | ⟨h1, g, c, h2, h3⟩
  · rcases h' with ⟨h1', h2'⟩ | ⟨h1', g', c', h2', h3'⟩
    · exact Or.inl ⟨h2, h2'⟩
    · exact absurd h1 h1'
  · rcases h' with ⟨h1', h2'⟩ | ⟨h1', g', c', h2', h3'⟩
    · exact absurd h1' h1
    · exact Or.inr ⟨g, c, g', c', x, h2, h2', h3, h3'⟩
theorem find_row (s : ByteArray) (i : Fin 62) (hr : rowOf (S (fold s.data.toList)) = some i) (w : World) (hs : s.size ≤ 4194304) (ht : NumT3 w) :
    Calls Tryd.prog 8 #[.string s] w fun e w' => (∃ a1 a2 a3, e = .returned (.tuple #[.agg #[.string (rowL i).1, .slice a1 a2 a3, .string (rowL i).2.2, .string (supN i), .int .i64 (SYN.getD i.1 0), .int .i64 (USG.getD i.1 0)], .bool true]) ∧ AlIs w' (rowL i).2.1 (.slice a1 a2 a3)) ∧ Below w.heap.size w w' := by
  refine (find_any s w (by omega) ht).mono ?_
  rintro e w' ⟨h, hb⟩
  refine ⟨?_, hb⟩
  rcases h with ⟨h1, _⟩ | ⟨j, v, h1, h2, al, h3, h4⟩
  · rw [hr] at h1; cases h1
  · rw [hr] at h1
    obtain rfl := Option.some.inj h1
    subst h3
    rcases h4 with ⟨h5, rfl⟩ | ⟨h5, g, c, _, rfl, h6⟩
    · exact ⟨none, 0, 0, h2, Or.inl ⟨h5, rfl⟩⟩
    · exact ⟨some ⟨g, 0, none⟩, 1, c, h2, Or.inr ⟨h5, g, c, rfl, h6⟩⟩
theorem can_spelt (s f : ByteArray) (hf : S (fold s.data.toList) = f) (k : Nat) (hk : k < 10) (ys : List (List UInt8)) (hSp : Sp k ys f) (w : World) (hs : s.size ≤ 4194000) :
    Calls Tryd.prog 6 #[.string s] w fun e w' => (∃ x, e = .returned (.tuple #[.string (S x), .int .i64 0, .int .i64 (s.size : Int)]) ∧ CanIs f x) ∧ Below w.heap.size w w' := by
  have hfz : f.size = s.size := by rw [← hf, fold_size]
  have hkz := kn_len ⟨k, hk⟩ ⟨0, by omega⟩
  have hcz : (canN (typD f)).size ≤ 26 := by rw [← size_l, hSp.2.1]; exact hkz
  refine (canonicalT_any s f hf w (by omega) (by omega)).mono ?_
  rintro e w' ⟨h, hb⟩
  refine ⟨?_, hb⟩
  rcases h with ⟨h1, x, hx, rfl⟩ | ⟨h1, _⟩
  · refine ⟨x, ?_, hx⟩
    rw [hSp.1, ← hfz]
  · rw [hSp.1] at h1; cases h1
end Go.Proofs.YteiikipldejeeaaDoor
