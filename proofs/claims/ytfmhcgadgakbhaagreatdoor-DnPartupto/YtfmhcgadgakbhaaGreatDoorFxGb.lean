import Derived.Test.YtfmhcgadgakbhaaGreatDoorFxG
import Derived.Test.YtfmhcgadgakbhaaGreatDoorFxD
import Derived.Lib.AppendZeros
namespace Go.Proofs.YtfmhcgadgakbhaaGreatDoor
namespace Ke
open Go.RowKit
set_option linter.unusedVariables false
set_option linter.unusedSimpArgs false
set_option maxRecDepth 100000

set_option maxHeartbeats 1000000 in
/-- Does the byte stand in the text? -/
theorem among_any (c : UInt8) (s : ByteArray) (w : World) (hs : s.size ≤ 1048576) :
    Calls Tryz.prog 36 #[.int .u8 (c.toNat : Int), .string s] w fun e w' => e = .returned (.bool (s.data.toList.contains c)) ∧ w' = w := by
  have hL : Hid (s.data.toList.length = s.size) := size_l s
  obtain ⟨r, hr⟩ : ∃ r, s.data.toList.contains c = r := ⟨_, rfl⟩
  rw [hr]
  have hr' : Hid (s.data.toList.contains c = r) := hr
  clear hr
  go_enter Tryz.func36, Tryz.ntmps36
  go_wp2_with fail
  go_loop [5] (fun i => ∃ k : Nat, k ≤ s.size ∧ i = .int .i64 k ∧ Hid (¬ c ∈ s.data.toList.take k)) (fun i => s.size - (intOf i).toNat)
  case atStart => exact ⟨0, Nat.zero_le _, rfl, by unfold Hid; simp⟩
  case round =>
    obtain ⟨k, hk, rfl, hR⟩ := hrel
    have k0 : (0 : Int) ≤ (k : Int) := Int.natCast_nonneg _
    by_cases hlt : k < s.size
    · have k1 : (k : Int) < (s.size : Int) := Int.ofNat_lt.2 hlt
      have hsn := take_snoc s k hlt
      have hmem : Hid (s[k] ∈ s.data.toList) := by
        have : s[k] = s.data.toList[k]'(by rw [hL.out]; exact hlt) := rfl
        unfold Hid
        rw [this]
        exact List.getElem_mem _
      obtain ⟨b, hb⟩ : ∃ b, s[k] = b := ⟨_, rfl⟩
      rw [hb] at hsn hmem
      have hbq := u8_beq b c
      by_cases e : b = c
      · have hfin : Hid (r = true) := by
          unfold Hid
          rw [← hr'.out, List.contains_iff_mem, ← e]
          exact hmem.out
        rw [e, beq_self_eq_true] at hbq
        have hbq' := hbq.symm
        subst e
        clear hsn hmem hR hbq
        go_wp2_with fail
        go_ret
        exact ⟨by rw [hfin.out]; rfl, rfl⟩
      · have hfin : Hid (¬ c ∈ s.data.toList.take (k + 1)) := by
          unfold Hid
          rw [hsn, List.mem_append]
          rintro (h | h)
          · exact hR.out h
          · exact e (List.mem_singleton.1 h).symm
        have hbq' : ((b.toNat : Int) == (c.toNat : Int)) = false := by rw [← hbq]; simpa using e
        clear hsn hmem hR hbq e
        go_wp2_with fail
        go_round
        case rel => exact ⟨k + 1, hlt, by go_num, hfin⟩
        case measure => simp [intOf]; omega
    · have e : k = s.size := by omega
      subst e
      have i1 : ¬ (s.size : Int) < (s.size : Int) := by omega
      have hfin : Hid (r = false) := by
        have h := hR.out
        rw [List.take_of_length_le (by rw [hL.out]; exact Nat.le_refl _)] at h
        unfold Hid
        rw [← hr'.out, ← Bool.not_eq_true, List.contains_iff_mem]
        exact h
      clear hR
      go_wp2_with fail
      go_ret
      exact ⟨by rw [hfin.out]; rfl, rfl⟩

theorem esc_set : ({ data := #[92, 34, 43, 44, 59, 60, 62] } : ByteArray).data.toList = [92, 34, 43, 44, 59, 60, 62] := rfl
theorem mst_edge (n i : Nat) (c : UInt8) : mst n i c = (((decide (i = 0) && (c == 32 || c == 35)) || (decide (i + 1 = n) && c == 32)) || ([92, 34, 43, 44, 59, 60, 62] : List UInt8).contains c) := by
  unfold mst
  simp only [List.contains_cons, List.contains_nil]
  have e1 : (i == 0) = decide (i = 0) := by by_cases h : i = 0 <;> simp [h]
  have e2 : (i + 1 == n) = decide (i + 1 = n) := by by_cases h : i + 1 = n <;> simp [h]
  rw [e1, e2]
  cases decide (i = 0) <;> cases decide (i + 1 = n) <;> cases (c == 32) <;> cases (c == 35) <;> cases (c == 92) <;> cases (c == 34) <;> cases (c == 43) <;> cases (c == 44) <;> cases (c == 59) <;> cases (c == 60) <;> cases (c == 62) <;> rfl
theorem bytes_lie (w : World) (vs : List UInt8) : ∀ j u, (bv vs)[j]? = some u → (w.alloc (.cells (bv vs).toArray 5)).cell? ((⟨w.heap.size, 0, none⟩ : Addr).add j) = some u := fun j u h => by
  rw [add_off, Nat.zero_add]
  have h1 : (w.alloc (.cells (bv vs).toArray 5)).heap[w.heap.size]? = some (.cells (bv vs).toArray 5 (0, 0)) := heap_alloc_new _ _
  rw [cell_of_row _ _ _ _ _ _ h1]
  simpa using h
/-- Bytes appended to a row of the call's own, as an equation. -/
theorem append_bytes (w : World) (B : Nat) (v : Value) (l vs : List UInt8) (hown : Own w B v l) (hB : B ≤ w.heap.size) (hl : l.length + vs.length ≤ 1099511627776) (hv : 0 < vs.length) :
    ∃ g cap w', (Builtin.append_ #[60, 60] 60 #[v, .slice (some ⟨w.heap.size, 0, none⟩) vs.length vs.length]).run Tryz.prog (w.alloc (.cells (bv vs).toArray 5)) = .ok (.slice (some ⟨g, 0, none⟩) (l.length + vs.length) cap) w' ∧ Own w' B (.slice (some ⟨g, 0, none⟩) (l.length + vs.length) cap) (l ++ vs) ∧ Below B w w' := by
  obtain ⟨i0, hi, hz0, hz1, hz2⟩ := info_parts info_u8
  have hb1 : Below B w (w.alloc (.cells (bv vs).toArray 5)) := (Below.refl _ _).alloc hB _
  obtain ⟨g, cap, w', hr, h2, h3, _, _⟩ := run_append_lies (P := Tryz.prog) (w.alloc (.cells (bv vs).toArray 5)) 60 60 B 5 i0 _ 1 1 Tryz.underlying60 hi hz0 hz1 hz2 rfl (by decide) v l.length (bv l) (World.ownsRow.alloc hown _) ⟨w.heap.size, 0, none⟩ vs.length vs.length (bv vs) (by rw [bv_len]; omega) (bytes_lie w vs) (fun u hu => by
      simp only [bv, List.mem_map] at hu
      obtain ⟨b, _, rfl⟩ := hu
      rfl) hv (by unfold maxLen; omega) (by omega) (by simp; omega) _ rfl
  refine ⟨g, cap, w', hr, ?_, hb1.grown h3 (by simp; omega) (fun j hj => (World.ownsRow.lt (show w.ownsRow B 5 1 v l.length (bv l) from hown) _ hj).1)⟩
  unfold Own
  rw [bv_app, List.length_append]
  exact h2
end Ke
end Go.Proofs.YtfmhcgadgakbhaaGreatDoor

namespace Go.Proofs.YtfmhcgadgakbhaaGreatDoor
namespace Ke
open Go.RowKit
set_option linter.unusedVariables false
set_option linter.unusedSimpArgs false
set_option maxRecDepth 100000

theorem mst_edge_int (n i : Nat) (c : UInt8) (r : Bool) (hr : ([92, 34, 43, 44, 59, 60, 62] : List UInt8).contains c = r) : mst n i c = ((((((i : Int) == 0) && (((c.toNat : Int) == 32) || ((c.toNat : Int) == 35))) || (((i : Int) == (n : Int) - 1) && ((c.toNat : Int) == 32)))) || r) := by
  rw [mst_edge, hr, u8_beq c 32, u8_beq c 35]
  have e1 : decide (i = 0) = ((i : Int) == 0) := by rw [Bool.eq_iff_iff]; simp
  have e2 : decide (i + 1 = n) = ((i : Int) == (n : Int) - 1) := by rw [Bool.eq_iff_iff]; simp; omega
  rw [e1, e2]
  rfl
set_option maxHeartbeats 4000000 in
/-- The reference's escape. -/
theorem escape_any (v : ByteArray) (w : World) (hs : v.size ≤ 300000000000) :
    Calls Tryz.prog 18 #[.string v] w fun e w' => e = .returned (.string (S (escV v.data.toList))) ∧ Below w.heap.size w w' := by
  have hL : Hid (v.data.toList.length = v.size) := size_l v
  go_enter Tryz.func18, Tryz.ntmps18
  go_wp2_with fail
  go_loopw [3, 4] (fun bq i wr => ∃ (ba : Option Addr) (bn bc k : Nat), bq = .slice ba bn bc ∧ k ≤ v.size ∧ i = .int .i64 k ∧ Hid (Own wr w.heap.size (.slice ba bn bc) (escF v.size 0 (v.data.toList.take k)) ∧ Below w.heap.size w wr)) (fun _ i _ => v.size - (intOf i).toNat)
  case atStart => exact ⟨none, 0, 0, 0, rfl, Nat.zero_le _, rfl, ⟨by rw [List.take_zero]; exact ⟨rfl, Or.inl ⟨rfl, rfl⟩⟩, Below.refl _ _⟩⟩
  case round =>
    obtain ⟨ba, bn, bc, k, rfl, hk, rfl, hR⟩ := hrel
    by_cases hlt : k < v.size
    · have hsn : Hid (escF v.size 0 (v.data.toList.take (k + 1)) = escF v.size 0 (v.data.toList.take k) ++ ec v.size k v[k]) := escV_snoc v k hlt
      have hlen : Hid ((escF v.size 0 (v.data.toList.take k)).length + 4 ≤ 1099511627776) := by
        unfold Hid
        have := escF_len v.size (v.data.toList.take k) 0
        rw [List.length_take] at this
        have := hL.out
        omega
      have c5 : (0 : Int) ≤ (k : Int) := by omega
      have c6 : (k : Int) < (v.size : Int) := by omega
      have hma : Hid (∀ w, Calls Tryz.prog 36 #[.int .u8 (v[k].toNat : Int), .string { data := #[92, 34, 43, 44, 59, 60, 62] }] w fun e w' => e = .returned (.bool (([92, 34, 43, 44, 59, 60, 62] : List UInt8).contains v[k])) ∧ w' = w) := fun w => among_any v[k] _ w (by decide)
      obtain ⟨c, hc⟩ : ∃ c, v[k] = c := ⟨_, rfl⟩
      rw [hc] at hsn hma
      generalize escF v.size 0 (v.data.toList.take k) = X at *
      have hc256 : c.toNat < 256 := c.toNat_lt
      have hap : Hid (∀ vs : List UInt8, 0 < vs.length → vs.length ≤ 3 → ec v.size k c = vs → ∃ g cap w', (Builtin.append_ #[60, 60] 60 #[.slice ba bn bc, .slice (some ⟨wr.heap.size, 0, none⟩) vs.length vs.length]).run Tryz.prog (wr.alloc (.cells (bv vs).toArray 5)) = .ok (.slice (some ⟨g, 0, none⟩) (X.length + vs.length) cap) w' ∧ Hid (Own w' w.heap.size (.slice (some ⟨g, 0, none⟩) (X.length + vs.length) cap) (escF v.size 0 (v.data.toList.take (k + 1))) ∧ Below w.heap.size w w')) := fun vs h0 h3 he => by
        obtain ⟨g, cap, w', h1, h2, h4⟩ := append_bytes wr w.heap.size (.slice ba bn bc) X vs hR.out.1 hR.out.2.size (by have := hlen.out; omega) h0
        exact ⟨g, cap, w', h1, by rw [hsn.out, he]; exact h2, hR.out.2.trans h4⟩
      clear hR hlen hsn hL
      obtain ⟨e0, he0⟩ : ∃ e, ((k : Int) == 0) = e := ⟨_, rfl⟩
      obtain ⟨e1, he1⟩ : ∃ e, ((k : Int) == (v.size : Int) - 1) = e := ⟨_, rfl⟩
      by_cases h0 : c = 0
      · subst h0
        have he : ec v.size k 0 = [92, 48, 48] := by unfold ec; rw [if_pos rfl]
        have hz : ((0 : UInt8).toNat : Int) = 0 := rfl
        rw [hz] at *
        obtain ⟨g, cap, w', h1, h2⟩ := hap.out _ (by decide) (by decide) he
        have h1' : (Builtin.append_ #[60, 60] 60 #[.slice ba bn bc, .slice (some ⟨wr.heap.size, 0, none⟩) 3 3]).run Tryz.prog (wr.alloc (.cells #[.int .u8 92, .int .u8 48, .int .u8 48] 5)) = .ok (.slice (some ⟨g, 0, none⟩) (X.length + 3) cap) w' := h1
        clear h1 hap hma he hz
        cases e0 <;> cases e1
        · go_wp2_with (at_builtin; refine Lib.wpList_append_run _ rfl _ _ _ _ rfl _ _ rfl rfl _ _ h1' ?_)
          go_roundw
          case rel => exact ⟨some ⟨g, 0, none⟩, _, cap, k + 1, rfl, hlt, by go_num, h2⟩
          case measure => simp [intOf]; omega
        · go_wp2_with (at_builtin; refine Lib.wpList_append_run _ rfl _ _ _ _ rfl _ _ rfl rfl _ _ h1' ?_)
          go_roundw
          case rel => exact ⟨some ⟨g, 0, none⟩, _, cap, k + 1, rfl, hlt, by go_num, h2⟩
          case measure => simp [intOf]; omega
        · go_wp2_with (at_builtin; refine Lib.wpList_append_run _ rfl _ _ _ _ rfl _ _ rfl rfl _ _ h1' ?_)
          go_roundw
          case rel => exact ⟨some ⟨g, 0, none⟩, _, cap, k + 1, rfl, hlt, by go_num, h2⟩
          case measure => simp [intOf]; omega
        · go_wp2_with (at_builtin; refine Lib.wpList_append_run _ rfl _ _ _ _ rfl _ _ rfl rfl _ _ h1' ?_)
          go_roundw
          case rel => exact ⟨some ⟨g, 0, none⟩, _, cap, k + 1, rfl, hlt, by go_num, h2⟩
          case measure => simp [intOf]; omega
      · have hne : ¬ ((c.toNat : Int) = 0) := fun e => h0 (UInt8.toNat_inj.1 (by simpa using e))
        have hne' : ((c.toNat : Int) == 0) = false := by simpa using hne
        obtain ⟨r, hr⟩ : ∃ r, ([92, 34, 43, 44, 59, 60, 62] : List UInt8).contains c = r := ⟨_, rfl⟩
        have hE : Hid (mst v.size k c = ((((((k : Int) == 0) && (((c.toNat : Int) == 32) || ((c.toNat : Int) == 35))) || (((k : Int) == (v.size : Int) - 1) && ((c.toNat : Int) == 32)))) || r)) := mst_edge_int _ _ _ _ hr
        rw [hr] at hma
        clear hr
        obtain ⟨q2, hq2⟩ : ∃ e, ((c.toNat : Int) == 32) = e := ⟨_, rfl⟩
        obtain ⟨q5, hq5⟩ : ∃ e, ((c.toNat : Int) == 35) = e := ⟨_, rfl⟩
        rw [he0, he1, hq2, hq5] at hE
        have hap2 : Hid (mst v.size k c = true → ∃ g cap w', (Builtin.append_ #[60, 60] 60 #[.slice ba bn bc, .slice (some ⟨wr.heap.size, 0, none⟩) 2 2]).run Tryz.prog (wr.alloc (.cells #[.int .u8 92, .int .u8 (c.toNat : Int)] 5)) = .ok (.slice (some ⟨g, 0, none⟩) (X.length + 2) cap) w' ∧ Hid (Own w' w.heap.size (.slice (some ⟨g, 0, none⟩) (X.length + 2) cap) (escF v.size 0 (v.data.toList.take (k + 1))) ∧ Below w.heap.size w w')) := fun hq => hap.out [92, c] (by simp) (by simp) (by unfold ec; rw [if_neg h0, if_pos hq])
        have hap1 : Hid (mst v.size k c = false → ∃ g cap w', (Builtin.append_ #[60, 60] 60 #[.slice ba bn bc, .slice (some ⟨wr.heap.size, 0, none⟩) 1 1]).run Tryz.prog (wr.alloc (.cells #[.int .u8 (c.toNat : Int)] 5)) = .ok (.slice (some ⟨g, 0, none⟩) (X.length + 1) cap) w' ∧ Hid (Own w' w.heap.size (.slice (some ⟨g, 0, none⟩) (X.length + 1) cap) (escF v.size 0 (v.data.toList.take (k + 1))) ∧ Below w.heap.size w w')) := fun hq => hap.out [c] (by simp) (by simp) (by unfold ec; rw [if_neg h0, if_neg (by rw [hq]; decide)])
        clear hap
        cases e0 with
        | true =>
          cases q2 with
          | true =>
            obtain ⟨g, cap, w', h1, h2⟩ := hap2.out (hE.out.trans (by simp))
            clear hap1 hap2 hE hma
            go_wp2_with (at_builtin; refine Lib.wpList_append_run _ rfl _ _ _ _ rfl _ _ rfl rfl _ _ h1 ?_)
            go_roundw
            case rel => exact ⟨some ⟨g, 0, none⟩, _, cap, k + 1, rfl, hlt, by go_num, h2⟩
            case measure => simp [intOf]; omega
          | false =>
            cases q5 with
            | true =>
              obtain ⟨g, cap, w', h1, h2⟩ := hap2.out (hE.out.trans (by simp))
              clear hap1 hap2 hE hma
              go_wp2_with (at_builtin; refine Lib.wpList_append_run _ rfl _ _ _ _ rfl _ _ rfl rfl _ _ h1 ?_)
              go_roundw
              case rel => exact ⟨some ⟨g, 0, none⟩, _, cap, k + 1, rfl, hlt, by go_num, h2⟩
              case measure => simp [intOf]; omega
            | false =>
              cases e1 with
              | true =>
                cases r with
                | true =>
                  obtain ⟨g, cap, w', h1, h2⟩ := hap2.out (hE.out.trans (by simp))
                  clear hap1 hap2 hE
                  go_wp2_with (first | (go_at_call 36; refine (hma.out _).mono ?_; rintro e w2 ⟨rfl, rfl⟩) | (at_builtin; refine Lib.wpList_append_run _ rfl _ _ _ _ rfl _ _ rfl rfl _ _ h1 ?_))
                  go_roundw
                  case rel => exact ⟨some ⟨g, 0, none⟩, _, cap, k + 1, rfl, hlt, by go_num, h2⟩
                  case measure => simp [intOf]; omega
                | false =>
                  obtain ⟨g, cap, w', h1, h2⟩ := hap1.out (hE.out.trans (by simp))
                  clear hap1 hap2 hE
                  go_wp2_with (first | (go_at_call 36; refine (hma.out _).mono ?_; rintro e w2 ⟨rfl, rfl⟩) | (at_builtin; refine Lib.wpList_append_run _ rfl _ _ _ _ rfl _ _ rfl rfl _ _ h1 ?_))
                  go_roundw
                  case rel => exact ⟨some ⟨g, 0, none⟩, _, cap, k + 1, rfl, hlt, by go_num, h2⟩
                  case measure => simp [intOf]; omega
              | false =>
                cases r with
                | true =>
                  obtain ⟨g, cap, w', h1, h2⟩ := hap2.out (hE.out.trans (by simp))
                  clear hap1 hap2 hE
                  go_wp2_with (first | (go_at_call 36; refine (hma.out _).mono ?_; rintro e w2 ⟨rfl, rfl⟩) | (at_builtin; refine Lib.wpList_append_run _ rfl _ _ _ _ rfl _ _ rfl rfl _ _ h1 ?_))
                  go_roundw
                  case rel => exact ⟨some ⟨g, 0, none⟩, _, cap, k + 1, rfl, hlt, by go_num, h2⟩
                  case measure => simp [intOf]; omega
                | false =>
                  obtain ⟨g, cap, w', h1, h2⟩ := hap1.out (hE.out.trans (by simp))
                  clear hap1 hap2 hE
                  go_wp2_with (first | (go_at_call 36; refine (hma.out _).mono ?_; rintro e w2 ⟨rfl, rfl⟩) | (at_builtin; refine Lib.wpList_append_run _ rfl _ _ _ _ rfl _ _ rfl rfl _ _ h1 ?_))
                  go_roundw
                  case rel => exact ⟨some ⟨g, 0, none⟩, _, cap, k + 1, rfl, hlt, by go_num, h2⟩
                  case measure => simp [intOf]; omega
        | false =>
          cases e1 with
          | true =>
            cases q2 with
            | true =>
              obtain ⟨g, cap, w', h1, h2⟩ := hap2.out (hE.out.trans (by simp))
              clear hap1 hap2 hE hma
              go_wp2_with (at_builtin; refine Lib.wpList_append_run _ rfl _ _ _ _ rfl _ _ rfl rfl _ _ h1 ?_)
              go_roundw
              case rel => exact ⟨some ⟨g, 0, none⟩, _, cap, k + 1, rfl, hlt, by go_num, h2⟩
              case measure => simp [intOf]; omega
            | false =>
              cases r with
              | true =>
                obtain ⟨g, cap, w', h1, h2⟩ := hap2.out (hE.out.trans (by simp))
                clear hap1 hap2 hE
                go_wp2_with (first | (go_at_call 36; refine (hma.out _).mono ?_; rintro e w2 ⟨rfl, rfl⟩) | (at_builtin; refine Lib.wpList_append_run _ rfl _ _ _ _ rfl _ _ rfl rfl _ _ h1 ?_))
                go_roundw
                case rel => exact ⟨some ⟨g, 0, none⟩, _, cap, k + 1, rfl, hlt, by go_num, h2⟩
                case measure => simp [intOf]; omega
              | false =>
                obtain ⟨g, cap, w', h1, h2⟩ := hap1.out (hE.out.trans (by simp))
                clear hap1 hap2 hE
                go_wp2_with (first | (go_at_call 36; refine (hma.out _).mono ?_; rintro e w2 ⟨rfl, rfl⟩) | (at_builtin; refine Lib.wpList_append_run _ rfl _ _ _ _ rfl _ _ rfl rfl _ _ h1 ?_))
                go_roundw
                case rel => exact ⟨some ⟨g, 0, none⟩, _, cap, k + 1, rfl, hlt, by go_num, h2⟩
                case measure => simp [intOf]; omega
          | false =>
            cases r with
            | true =>
              obtain ⟨g, cap, w', h1, h2⟩ := hap2.out (hE.out.trans (by simp))
              clear hap1 hap2 hE
              go_wp2_with (first | (go_at_call 36; refine (hma.out _).mono ?_; rintro e w2 ⟨rfl, rfl⟩) | (at_builtin; refine Lib.wpList_append_run _ rfl _ _ _ _ rfl _ _ rfl rfl _ _ h1 ?_))
              go_roundw
              case rel => exact ⟨some ⟨g, 0, none⟩, _, cap, k + 1, rfl, hlt, by go_num, h2⟩
              case measure => simp [intOf]; omega
            | false =>
              obtain ⟨g, cap, w', h1, h2⟩ := hap1.out (hE.out.trans (by simp))
              clear hap1 hap2 hE
              go_wp2_with (first | (go_at_call 36; refine (hma.out _).mono ?_; rintro e w2 ⟨rfl, rfl⟩) | (at_builtin; refine Lib.wpList_append_run _ rfl _ _ _ _ rfl _ _ rfl rfl _ _ h1 ?_))
              go_roundw
              case rel => exact ⟨some ⟨g, 0, none⟩, _, cap, k + 1, rfl, hlt, by go_num, h2⟩
              case measure => simp [intOf]; omega
    · have hke : k = v.size := by omega
      subst hke
      have HB : Hid (Below w.heap.size w wr) := hR.out.2
      have hO : Own wr w.heap.size (.slice ba bn bc) (escV v.data.toList) := by
        have := hR.out.1
        rw [List.take_of_length_le (by rw [hL.out]; exact Nat.le_refl _)] at this
        unfold escV
        rw [hL.out]
        exact this
      have hcv := own_conv hO
      clear hR hO hL
      have i1 : ¬ (v.size : Int) < (v.size : Int) := by omega
      go_wp2_with fail
      go_ret
      exact ⟨rfl, HB.out⟩
end Ke
end Go.Proofs.YtfmhcgadgakbhaaGreatDoor
