import Derived.Test.YtilglidhlcmfbaaDoorInfo
import Derived.Test.YtilglidhlcmfbaaDoorBytes
import Derived.Test.YtilglidhlcmfbaaDoorHexMath
import Derived.Deep.RegionHeld3
import Derived.Deep.RegionLaw
import Derived.Deep.DrawnRows
import Derived.Deep.AppendLies
namespace Go.Proofs.YtilglidhlcmfbaaDoor
open Go.RowKit
open TextMath (dg hex)
attribute [local go_sem ↓] Go.wp_at_zero Go.wp_at_succ

/-- The table of the digits lies in its variable. -/
def HexTab (w : World) : Prop := ∀ i, i < 16 → w.cell? ⟨1, i, none⟩ = some (.int .u8 ((dg i).toNat : Int))

theorem block_lt {w : World} {a : Addr} {v : Value} (h : w.cell? a = some v) : a.block < w.heap.size := by
  rcases Nat.lt_or_ge a.block w.heap.size with h' | h'
  · exact h'
  · unfold World.cell? at h
    rw [Array.getElem?_eq_none h'] at h
    cases h
theorem HexTab.below {w w' : World} (h : HexTab w) (hb : Below w.heap.size w w') : HexTab w' := fun i hi => by
  rw [hb.cell (block_lt (h i hi))]; exact h i hi

/-- 'append' within the capacity, at a step of a region that draws its order. -/
theorem step_append_fits {P : Program} {ops : Array Oper} {o : Oper} {a : Act} {w : World} {K : Act → World → Prop} {Q : Exit → Act → World → Prop} {E : Prop}
    (hg : o.guard = none) (s x : Operand) (t : TypeId) (hop : o.op = Op.call { callee := Callee.builtin Builtin.append, args := #[s, x], argTypes := #[t, t] })
    (base : Nat) (e : TypeId) (i : TypeInfo) (size : Nat) (h1 : P.underlying t = some (.slice e)) (h2 : P.info? e = some i) (h4 : i.size = size)
    (g k cap : Nat) (xs : List Value) (hs : a.eval s = .slice (some ⟨g, 0, none⟩) k cap) (hown : w.ownsRow base e size (.slice (some ⟨g, 0, none⟩) k cap) k xs) (ad : Addr) (m c : Nat) (news : List Value) (hx : a.eval x = .slice (some ad) m c) (hn : news.length = m * size)
    (hc : ∀ j u, news[j]? = some u → w.cell? (ad.add j) = some u) (h1c : ∀ u ∈ news, u.oneCell' = true) (b1 : k + m ≤ cap)
    (hK : ∀ w', w'.ownsRow base e size (.slice (some ⟨g, 0, none⟩) (k + m) cap) (k + m) (xs ++ news) → w.grownBy w' (some g) → K (a.put o.dst (.slice (some ⟨g, 0, none⟩) (k + m) cap)) w') :
    if Region.wanted o (yielded ops a.tmps) = true then Oper.wp P o a w K Q else E := by
  have hw : Region.wanted o (yielded ops a.tmps) = true := by simp [Region.wanted, hg]
  rw [if_pos hw]
  obtain ⟨w', hrun, r1, r2⟩ := run_append_fits (P := P) w base t o.type e i size h1 h2 h4 g k cap xs hown ad m c news hn hc h1c b1
  unfold Oper.wp
  simp [execOp, hop, resolve, invoke, builtin, hs, hx, hrun, Result.andThen]
  exact hK w' r1 r2

theorem and15 (n : Nat) (h : n < 256) : bits .and .u8 (n : Int) 15 = ((n % 16 : Nat) : Int) := by
  have e := u8_and_nat n 15 h (by omega)
  rw [show (15 : Int) = ((15 : Nat) : Int) from rfl, e]
  congr 1
  have := Nat.and_two_pow_sub_one_eq_mod n 4
  simpa using this
theorem hex_snoc (s : ByteArray) (k : Nat) (h : k < s.size) : hex (s.data.toList.take (k + 1)) = hex (s.data.toList.take k) ++ [dg (s[k].toNat / 16), dg (s[k].toNat % 16)] := by
  rw [take_snoc s k h]; simp [hex]

set_option maxHeartbeats 1000000 in
theorem hex_any (s : ByteArray) (w : World) (hm : s.size ≤ 140737488355328) (ht : HexTab w) :
    Calls Tryd.prog 23 #[.string s] w fun e w' => e = .returned (.string (S (hex s.data.toList))) ∧ Below w.heap.size w w' := by
  have hL : Hid (s.data.toList.length = s.size) := size_l s
  obtain ⟨i0, hi, hz0, hz1, hz2⟩ := info_parts info_u8
  have hblk : 1 < w.heap.size := block_lt (ht 0 (by omega))
  go_enter Tryd.func23, Tryd.ntmps23
  go_wp2_with (at_make; refine wpList_make_own _ rfl _ _ 29 rfl w.heap.size 5 i0 (.int .u8 0) 1 Tryd.underlying29 hi hz0 hz1 _ _ _ (2 * s.size) rfl rfl ?_ ?_ ?_ ?_ ?_; (simp); (rw [hz2]; omega); (unfold maxLen; omega); (exact Nat.le_refl _); intro w1 hown1 hgrow1)
  have hb1 : Below w.heap.size w w1 := (Below.refl _ _).grown hgrow1 (Nat.le_refl _) (fun k h => by cases h)
  go_loopw [3, 4] (fun out i wr => ∃ (k : Nat), k ≤ s.size ∧ i = .int .i64 k ∧ out = .slice (some ⟨w.heap.size, 0, none⟩) (2 * k) (2 * s.size) ∧ Below w.heap.size w wr ∧ w.heap.size < wr.heap.size ∧ wr.ownsRow w.heap.size 5 1 (.slice (some ⟨w.heap.size, 0, none⟩) (2 * k) (2 * s.size)) (2 * k) (bv (hex (s.data.toList.take k)))) (fun _ i _ => s.size - (intOf i).toNat)
  case atStart => exact ⟨0, Nat.zero_le _, rfl, rfl, hb1, (hown1.lt _ rfl).2, hown1⟩
  case round =>
    clear hown1 hgrow1 hb1
    obtain ⟨k, hk, rfl, rfl, hb, hgs, hown⟩ := hrel
    by_cases hlt : k < s.size
    · have hc256 : s[k].toNat < 256 := s[k].toNat_lt
      have t1 := (ht.below hb) (s[k].toNat / 16) (by omega)
      have t2 := (ht.below hb) (s[k].toNat % 16) (by omega)
      have hq : ((s[k].toNat : Nat) : Int) / 16 = ((s[k].toNat / 16 : Nat) : Int) := by omega
      have hr : bits .and .u8 ((s[k].toNat : Nat) : Int) 15 = ((s[k].toNat % 16 : Nat) : Int) := and15 _ hc256
      have hsn : Hid (bv (hex (s.data.toList.take (k + 1))) = bv (hex (s.data.toList.take k)) ++ [.int .u8 ((dg (s[k].toNat / 16)).toNat : Int), .int .u8 ((dg (s[k].toNat % 16)).toNat : Int)]) := by unfold Hid; rw [hex_snoc _ _ hlt, bv_app]; rfl
      have b1 : s[k].toNat / 16 < 16 := by omega
      have b2 : s[k].toNat % 16 < 16 := by omega
      generalize s[k].toNat / 16 = qa at *
      generalize s[k].toNat % 16 = qb at *
      generalize ((dg qa).toNat : Int) = da at *
      generalize ((dg qb).toNat : Int) = db at *
      have c1 : (0 : Int) ≤ (qa : Int) := by omega
      have c2 : (qa : Int) < 16 := by omega
      have c3 : (0 : Int) ≤ (qb : Int) := by omega
      have c4 : (qb : Int) < 16 := by omega
      have c5 : (0 : Int) ≤ (k : Int) := by omega
      have c6 : (k : Int) < (s.size : Int) := by omega
      clear b1 b2
      go_wp2
      go_region_held3 (fun w' => w'.cell? ⟨1, qa, none⟩ = some (.int .u8 da) ∧ w'.cell? ⟨1, qb, none⟩ = some (.int .u8 db))
        (first
          | go_keep
          | (go_split_ands
             refine ⟨?_, ?_⟩
             · (rw [hgrow1.cell_far _ (by first | (simp; done) | (simp; omega)) (by simp; omega)]; assumption)
             · (rw [hgrow1.cell_far _ (by first | (simp; done) | (simp; omega)) (by simp; omega)]; assumption)))
        ((refine step_append_fits (by rfl) _ _ _ (by rfl) w.heap.size 5 i0 1 Tryd.underlying29 hi hz1 w.heap.size (2 * k) (2 * s.size) _ (by rfl) ((hown.alloc _).drew) ⟨wr.heap.size, 0, none⟩ 2 2 [.int .u8 da, .int .u8 db] (by rfl) (by rfl) (World.news_of_block (cs := #[.int .u8 da, .int .u8 db]) (t := 5) (fr := (0, 0)) (heap_alloc_new wr _)) (by intro u hu; simp at hu; rcases hu with rfl | rfl <;> rfl) (by omega) ?_; intro w1 hown1 hgrow1))
      all_goals
        go_wp2
        go_roundw
        case rel =>
          have hk2 : 2 * k + 2 = 2 * (k + 1) := by omega
          refine ⟨k + 1, by omega, by go_num, by rw [hk2], ?_, ?_, ?_⟩
          · exact ((hb.alloc (by omega) _).drew).grown hgrow1 (by simp; omega) (fun j h => by injection h with h; omega)
          · have := hgrow1.size; simp at this; omega
          · rw [hsn.out, ← hk2]; exact hown1
        case measure => simp [intOf]; omega
    · have hk2 : k = s.size := by omega
      subst hk2
      have hback := own_back (P := Tryd.prog) wr w.heap.size 29 9 5 w.heap.size _ _ _ Tryd.underlying29 Tryd.underlying5 Tryd.underlying9 hown
      rw [List.take_of_length_le (by rw [hL.out]; exact Nat.le_refl _)] at hback
      clear hown
      go_wp2
      go_ret
      exact ⟨rfl, hb⟩
end Go.Proofs.YtilglidhlcmfbaaDoor
