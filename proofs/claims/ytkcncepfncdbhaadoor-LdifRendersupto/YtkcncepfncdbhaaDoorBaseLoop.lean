import Derived.Test.YtkcncepfncdbhaaDoorBase2
import Derived.Deep.AppendLies
namespace Go.Proofs.YtkcncepfncdbhaaDoor
open Go.RowKit
open TextMath (al grp b64)

theorem own_block {w w' : World} {base e size g n cap : Nat} {xs : List Value} (h : w.ownsRow base e size (.slice (some ⟨g, 0, none⟩) n cap) n xs) (hb : w'.heap[g]? = w.heap[g]?) : w'.ownsRow base e size (.slice (some ⟨g, 0, none⟩) n cap) n xs := by
  refine ⟨h.1, ?_⟩
  rcases h.2 with ⟨h1, _⟩ | ⟨g', cap', cur, h1, h2, h3, h4⟩
  · cases h1
  · injection h1 with h1 _ h5
    injection h1 with h1
    injection h1 with h1 _ _
    subst h1 h5
    exact Or.inr ⟨g, cap, cur, rfl, h2, by rw [hb]; exact h3, h4⟩

theorem four_new (w : World) (O : Obj) (a b c d : Value) (e : TypeId) : ∀ j u, [a, b, c, d][j]? = some u → ((w.alloc O).alloc (.cells #[a, b, c, d] e)).cell? ((⟨w.heap.size + 1, 0, none⟩ : Addr).add j) = some u := by
  have hb : ((w.alloc O).alloc (.cells #[a, b, c, d] e)).heap[w.heap.size + 1]? = some (.cells #[a, b, c, d] e (0, 0)) := by
    have h := heap_alloc_new (w.alloc O) (.cells #[a, b, c, d] e)
    simpa using h
  exact World.news_of_block hb

/-- How long the text in a slot is. -/
def szOf : Value → Nat
  | .string t => t.size
  | _ => 0

theorem b64_go (l o : List UInt8) (t : ByteArray) (m : Nat) (p q r x : UInt8) (h : b64 l = o ++ b64 t.data.toList) (h0 : 1 ≤ t.size) (hm : m = min 3 t.size) (hg : grp (t.extract 0 m).data.toList = [p, q, r, x]) :
    b64 l = (o ++ [p, q, r, x]) ++ b64 (t.extract m t.size).data.toList := by
  have hne : t.data.toList ≠ [] := fun e => by have := size_l t; rw [e] at this; simp at this; omega
  have e1 : t.data.toList.take m = t.data.toList.take 3 := by
    by_cases h3 : 3 ≤ t.size
    · rw [hm, Nat.min_eq_left h3]
    · rw [hm, Nat.min_eq_right (by omega), List.take_of_length_le (by rw [size_l]; omega), List.take_of_length_le (by rw [size_l]; omega)]
  have e2 : t.data.toList.drop m = t.data.toList.drop 3 := by
    by_cases h3 : 3 ≤ t.size
    · rw [hm, Nat.min_eq_left h3]
    · rw [hm, Nat.min_eq_right (by omega), List.drop_eq_nil_of_le (by rw [size_l]; omega), List.drop_eq_nil_of_le (by rw [size_l]; omega)]
  rw [take_l, e1] at hg
  rw [h, TextMath.b64_step _ hne, hg, drop_l, e2]; simp

set_option maxHeartbeats 1000000 in
theorem base64_any (s : ByteArray) (w : World) (hm : s.size ≤ 140737488355328) (ht : AlTab w) :
    Calls Tryd.prog 36 #[.string s] w fun e w' => e = .returned (.string (S (b64 s.data.toList))) ∧ Below w.heap.size w w' := by
  obtain ⟨i0, hi, hz0, hz1, hz2⟩ := info_parts info_u8
  obtain ⟨C, hC⟩ : ∃ C, C = (s.size + 2) / 3 * 4 := ⟨_, rfl⟩
  have HC : Hid (C = (s.size + 2) / 3 * 4) := hC
  have hCb : C ≤ 281474976710656 := by omega
  have hCe : ((s.size : Int) + 2) / 3 * 4 = (C : Int) := by omega
  clear hC
  go_enter Tryd.func36, Tryd.ntmps36
  go_wp2_with (at_make; refine wpList_make_own _ rfl _ _ 30 rfl w.heap.size 5 i0 (.int .u8 0) 1 Tryd.underlying30 hi hz0 hz1 _ _ _ C rfl rfl rfl ?_ ?_ ?_ ?_; (rw [hz2]; omega); (unfold maxLen; omega); (exact Nat.le_refl _); intro w1 hown1 hgrow1)
  have hb1 : Below w.heap.size w w1 := (Below.refl _ _).grown hgrow1 (Nat.le_refl _) (fun k h => by cases h)
  go_loopw [0, 3] (fun sv out wr => ∃ (t : ByteArray) (o : List UInt8), sv = .string t ∧ t.size ≤ s.size ∧ out = .slice (some ⟨w.heap.size, 0, none⟩) o.length C ∧ o.length + (t.size + 2) / 3 * 4 = C ∧ Below w.heap.size w wr ∧ w.heap.size < wr.heap.size ∧ wr.ownsRow w.heap.size 5 1 (.slice (some ⟨w.heap.size, 0, none⟩) o.length C) o.length (bv o) ∧ Hid (b64 s.data.toList = o ++ b64 t.data.toList)) (fun sv _ _ => szOf sv)
  case atStart => exact ⟨s, [], rfl, Nat.le_refl _, rfl, by rw [HC.out]; simp, hb1, (hown1.lt _ rfl).2, hown1, by unfold Hid; simp⟩
  case round =>
    clear hown1 hgrow1 hb1 hCe
    obtain ⟨t, o, rfl, hts, rfl, hlenC, hb, hgs, hown, hbb⟩ := hrel
    have HLC : Hid (o.length + (t.size + 2) / 3 * 4 = C) := hlenC
    clear hlenC
    by_cases hp : 0 < t.size
    · by_cases h3 : 3 ≤ t.size
      · have hcall : Hid (Calls Tryd.prog 45 #[.string (t.extract 0 3)] wr fun e w' => (∃ p q r x : UInt8, grp (t.extract 0 3).data.toList = [p, q, r, x] ∧ e = .returned (.agg #[.int .u8 (p.toNat : Int), .int .u8 (q.toNat : Int), .int .u8 (r.toNat : Int), .int .u8 (x.toNat : Int)])) ∧ Below wr.heap.size wr w') :=
          enc_any _ wr (by simp; omega) (by simp; omega) (ht.below hb)
        have hroom : o.length + 4 ≤ C := by have := HLC.out; omega
        go_wp2_with (first | (go_at_call 45; refine hcall.out.mono ?_; rintro e w2 ⟨⟨p, q, r, x, hg, rfl⟩, hb2⟩; have HG : Hid (_ = _) := hg; clear hg; have hown2 := own_block hown (hb2.block _ hgs); have hs2 := hb2.size) | (at_builtin; refine wpList_append_fits _ rfl _ _ 30 rfl w.heap.size 5 i0 1 Tryd.underlying30 hi hz1 w.heap.size o.length C _ rfl ((hown2.alloc _).alloc _) ⟨w2.heap.size + 1, 0, none⟩ 4 4 [.int .u8 (p.toNat : Int), .int .u8 (q.toNat : Int), .int .u8 (r.toNat : Int), .int .u8 (x.toNat : Int)] rfl rfl ?_ ?_ ?_ ?_; (exact four_new _ _ _ _ _ _ _); (intro u hu; simp at hu; rcases hu with rfl | rfl | rfl | rfl <;> rfl); omega; intro w3 hown3 hgrow3))
        go_roundw
        case rel =>
          refine ⟨t.extract 3 t.size, o ++ [p, q, r, x], rfl, by simp; omega, by simp, ?_, ?_, ?_, ?_, b64_go _ o t 3 p q r x hbb.out hp (by omega) HG.out⟩
          · have := HLC.out; simp only [List.length_append, List.length_cons, List.length_nil, ByteArray.size_extract]; omega
          · exact (((hb.trans (hb2.mono hb.size)).alloc (by omega) _).alloc (by simp; omega) _).grown hgrow3 (by simp; omega) (fun j h => by injection h with h; omega)
          · have := hgrow3.size; simp at this; omega
          · rw [bv_app]; simp only [List.length_append, List.length_cons, List.length_nil]; exact hown3
        case measure => simp [szOf]; omega
      · have h3' : t.size ≤ 2 := by omega
        have hcall : Hid (Calls Tryd.prog 45 #[.string t] wr fun e w' => (∃ p q r x : UInt8, grp t.data.toList = [p, q, r, x] ∧ e = .returned (.agg #[.int .u8 (p.toNat : Int), .int .u8 (q.toNat : Int), .int .u8 (r.toNat : Int), .int .u8 (x.toNat : Int)])) ∧ Below wr.heap.size wr w') :=
          enc_any _ wr hp (by omega) (ht.below hb)
        have hroom : o.length + 4 ≤ C := by have := HLC.out; omega
        go_wp2_with (first | (go_at_call 45; refine hcall.out.mono ?_; rintro e w2 ⟨⟨p, q, r, x, hg, rfl⟩, hb2⟩; have HG : Hid (_ = _) := hg; clear hg; have hown2 := own_block hown (hb2.block _ hgs); have hs2 := hb2.size) | (at_builtin; refine wpList_append_fits _ rfl _ _ 30 rfl w.heap.size 5 i0 1 Tryd.underlying30 hi hz1 w.heap.size o.length C _ rfl ((hown2.alloc _).alloc _) ⟨w2.heap.size + 1, 0, none⟩ 4 4 [.int .u8 (p.toNat : Int), .int .u8 (q.toNat : Int), .int .u8 (r.toNat : Int), .int .u8 (x.toNat : Int)] rfl rfl ?_ ?_ ?_ ?_; (exact four_new _ _ _ _ _ _ _); (intro u hu; simp at hu; rcases hu with rfl | rfl | rfl | rfl <;> rfl); omega; intro w3 hown3 hgrow3))
        go_roundw
        case rel =>
          refine ⟨t.extract t.size t.size, o ++ [p, q, r, x], by first | rfl | simp, by simp, by simp, ?_, ?_, ?_, ?_, b64_go _ o t t.size p q r x hbb.out hp (by omega) (by rw [take_l, List.take_of_length_le (by rw [size_l]; exact Nat.le_refl _)]; exact HG.out)⟩
          · have := HLC.out; simp only [List.length_append, List.length_cons, List.length_nil, ByteArray.size_extract]; omega
          · exact (((hb.trans (hb2.mono hb.size)).alloc (by omega) _).alloc (by simp; omega) _).grown hgrow3 (by simp; omega) (fun j h => by injection h with h; omega)
          · have := hgrow3.size; simp at this; omega
          · rw [bv_app]; simp only [List.length_append, List.length_cons, List.length_nil]; exact hown3
        case measure => simp [szOf]; omega
    · have hz : t.data.toList = [] := List.eq_nil_of_length_eq_zero (by rw [size_l]; omega)
      have hback := own_back (P := Tryd.prog) wr w.heap.size 30 9 5 w.heap.size _ _ _ Tryd.underlying30 Tryd.underlying5 Tryd.underlying9 hown
      have HR : Hid (o = b64 s.data.toList) := by
        have := hbb.out
        rw [hz] at this
        unfold Hid; rw [this]; simp [b64]
      clear hown hz
      go_wp2
      go_ret
      exact ⟨ret_str (by rw [HR.out]), hb⟩
end Go.Proofs.YtkcncepfncdbhaaDoor
