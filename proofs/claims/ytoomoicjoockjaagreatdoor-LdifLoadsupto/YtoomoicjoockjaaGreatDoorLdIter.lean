import Derived.RangeFuncNested
import Derived.RangeFuncBound
import Derived.RangeFuncCalls
import Derived.RangeFuncLeaves
import Derived.Shelf.Abstract
import Derived.Shelf.RegionOpen
import Derived.WalkKit
import Derived.OwnWalkIn
import Derived.TacticsInMore
import Derived.LoopNIn
import Derived.LoopIn
import Derived.Maps.OwnIn
import Derived.Test.YtoomoicjoockjaaGreatDoorGLd
namespace Go.Proofs.YtoomoicjoockjaaGreatDoor
open Go.RowKit Go.Shelf
open LdMath
attribute [local go_sem] Oper.semAt_some

/-- A physical line with its number. -/
abbrev Ln := { x : Nat × List UInt8 // x.1 ≤ 4194305 ∧ x.2.length ≤ 4194304 }
abbrev encP (x : Ln) : Array Value := #[.int .i64 (x.1.1 : Int), .string (S x.1.2)]
def vals (l : List Ln) : List (Nat × List UInt8) := l.map (·.1)
theorem vals_snoc (l : List Ln) (x : Ln) : vals (l ++ [x]) = vals l ++ [x.1] := by simp [vals]
theorem vals_len (l : List Ln) : (vals l).length = l.length := by simp [vals]
/-- What the iterator asks of a round: the box of its text and its own place stand. -/
def KP (sb : Nat) (W W' : World) : Prop := W.heap.size ≤ W'.heap.size ∧ W'.heap[sb]? = W.heap[sb]? ∧ ∀ (x : Nat) s p, W.heap[x]? = some (Obj.stringIter s p) → W'.heap[x]? = W.heap[x]?
theorem abides_iter {β : Type} {B : Nat} {J : β → World → Prop} (h : AbidesFrom B J) {z : β} {W : World} {k : Nat} {s : ByteArray} {p : Nat} (hz : J z W) (hk : W.heap[k]? = some (.stringIter s p)) (hB : B ≤ k) (p' : Nat) : J z (W.iterAt k s p') :=
  h z W _ (some k) hz ⟨rfl, rfl, rfl, by rw [Lib.iterAt_size]; exact Nat.le_refl _, fun i _ hi => Lib.iterAt_other W k i s p' (fun e => hi (by rw [e]))⟩ (fun r e => by injection e with e; subst e; exact ⟨hB, _, hk, rfl⟩)
theorem abidesB {β : Type} {B : Nat} {J : β → World → Prop} (h : AbidesFrom B J) {s : β} {W W' : World} (hs : J s W) (hb : Below W.heap.size W W') : J s W' :=
  h s W W' none hs ⟨hb.os, hb.tape, hb.output, hb.size, fun k hk _ => hb.block k hk⟩ (fun r e => by cases e)

theorem row1 {W : World} {b : Nat} {v : Value} {t : TypeId} (h : W.heap[b]? = some (.cells #[v] t (0, 0))) : W.cell? ⟨b, 0, none⟩ = some v := by
  rw [cell_of_row W b 0 _ _ _ h]
  rfl

set_option maxRecDepth 1000000 in
set_option maxHeartbeats 4000000 in
theorem physical_stops (n : Nat) (hn : 1 ≤ n) (s : ByteArray) (hs : s.size ≤ 4194304) (sb : Nat) (w : World) (hsb : w.heap[sb]? = some (.cells #[.string s] 9 (0, 0))) :
    SeqStopsK Fence.wide n Tryz.prog 31 #[.pointer (some ⟨sb, 0, none⟩)] encP (KP sb) (fun xs => vals xs = phys s.data.toList) (fun pre => vals pre <+: phys s.data.toList) (s.size + 1) w := fun l J Jx W hW hJ hJx hY h0 => by
  have hsl := size_l s
  have hbW : W.heap[sb]? = some (.cells #[.string s] 9 (0, 0)) := (hW.block sb (Array.getElem?_eq_some_iff.1 hsb).1).trans hsb
  have hsW : Hid (sb < W.heap.size) := (Array.getElem?_eq_some_iff.1 hbW).1
  have cS := row1 hbW
  have hJ0 : J [] (W.alloc (.stringIter s 0)) := abidesB hJ h0 ((Below.refl _ _).alloc (Nat.le_refl _) _)
  have hb0 : Hid ((W.alloc (.stringIter s 0)).heap[sb]? = some (.cells #[.string s] 9 (0, 0))) := (Below.heap_alloc _ _ _ hsW.out).trans hbW
  have hi0 : Hid ((W.alloc (.stringIter s 0)).heap[W.heap.size]? = some (.stringIter s 0)) := heap_alloc_last W _
  refine callsIn_of_wp Tryz.func31 rfl trivial ?_ rfl
  simp only [Tryz.ntmps31, List.size_toArray, List.length_cons, List.length_nil, Nat.reduceAdd, Nat.reduceSub, Array.replicate_succ, Array.replicate_zero, List.push_toArray, List.append_toArray, List.nil_append, List.cons_append]
  clear h0 hW hsb
  gi_wp2
  gi_loopw [3, 4] (fun nv bv wr => ∃ (pos k p : Nat) (pre : List Ln), pos ≤ s.size ∧ vals pre = pl s.data.toList pos ∧ k = (pl s.data.toList pos).length + 1 ∧ p = lo s.data.toList pos ∧ nv = .int .i64 (k : Int) ∧ bv = .int .i64 (p : Int) ∧ J pre wr ∧ Hid (wr.heap[W.heap.size]? = some (.stringIter s pos)) ∧ Hid (wr.heap[sb]? = some (.cells #[.string s] 9 (0, 0)))) (fun _ _ wr => s.size - wr.iterPos W.heap.size)
  case atStart => exact ⟨0, 1, 0, [], Nat.zero_le _, rfl, rfl, rfl, rfl, rfl, hJ0, hi0, hb0⟩
  case round =>
    obtain ⟨pos, k, p, pre, hle, hv, hk, hp, rfl, rfl, hJk, hit, hbx⟩ := hrel
    have hp1 : p ≤ pos := by rw [hp]; exact lo_le _ _
    have hk1 : k ≤ pos + 1 := by have := pl_len s.data.toList pos; omega
    have hlen : pre.length < s.size + 1 := by rw [← vals_len, hv]; have := pl_len s.data.toList pos; omega
    have cX := row1 hbx.out
    have p0 : (0 : Int) ≤ (p : Int) := Int.natCast_nonneg _
    have k0 : (0 : Int) ≤ (k : Int) := Int.natCast_nonneg _
    have k2 : (k : Int) < 8388608 := by omega
    have p2 : (pos : Int) < 8388608 := by omega
    have p3 : (p : Int) ≤ (pos : Int) := by omega
    have q0 : (0 : Int) ≤ (pos : Int) := Int.natCast_nonneg _
    have q1 : (pos : Int) ≤ (s.size : Int) := by omega
    by_cases hlt : pos < s.size
    · by_cases ha : (s[pos]'hlt).toNat < 128
      · by_cases h10 : (s[pos]'hlt) = 10
        · have hnx : ∀ ty, (Instr.next (.pointer (some ⟨W.heap.size, 0, none⟩)) true ty).run Tryz.prog wr = .ok (.tuple #[.bool true, .int .i64 (pos : Int), .int .i32 10]) (wr.iterAt W.heap.size s (pos + 1)) := fun ty => by
            rw [Lib.run_next_ascii_at wr _ s pos ty hit.out hlt ha, h10]; rfl
          obtain ⟨wi, hwi⟩ : ∃ wi, wr.iterAt W.heap.size s (pos + 1) = wi := ⟨_, rfl⟩
          rw [hwi] at hnx
          have hJi : J pre wi := by rw [← hwi]; exact abides_iter hJ hJk hit.out (Nat.le_refl _) _
          have hii : Hid (wi.heap[W.heap.size]? = some (.stringIter s (pos + 1))) := by rw [← hwi]; exact Lib.iterAt_heap _ _ _ _ _ hit.out
          have hbi : Hid (wi.heap[sb]? = some (.cells #[.string s] 9 (0, 0))) := by rw [← hwi]; exact (Lib.iterAt_other _ _ _ _ _ (by have := hsW.out; omega)).trans hbx.out
          have cI := row1 hbi.out
          have h10' : s.data.toList[pos]? = some 10 := by rw [get_at' s pos hlt, h10]
          have htl : (trimCR ((s.data.toList.take pos).drop p)).length ≤ 4194304 := by
            have := trimCR_len ((s.data.toList.take pos).drop p)
            rw [List.length_drop, List.length_take] at this
            omega
          obtain ⟨x, hx⟩ : ∃ x : Ln, x.1 = (k, trimCR ((s.data.toList.take pos).drop p)) := ⟨⟨_, by simp only; omega, htl⟩, rfl⟩
          have hT : ∀ W', Hid (Calls Tryz.prog 32 #[.string (s.extract p pos), .string ⟨#[13]⟩] W' fun e w' => e = .returned (.string (S x.1.2)) ∧ w' = W') := fun W' => by
            have := Tryz.strings_TrimSuffix (s.extract p pos) ⟨#[13]⟩ W' (by rw [← size_l, extr_l, List.length_drop, List.length_take]; omega)
            rw [extr_l, show (⟨#[13]⟩ : ByteArray).data.toList = [13] from rfl, trim_eq] at this
            rw [hx]
            exact this
          have hvn : Hid (vals (pre ++ [x]) = pl s.data.toList (pos + 1)) := by unfold Hid; rw [vals_snoc, hv, hx, pl_lf _ _ h10', ← hk, ← hp]
          have hkn : Hid (k + 1 = (pl s.data.toList (pos + 1)).length + 1) := by unfold Hid; rw [pl_lf _ _ h10', List.length_append, hk]; rfl
          have hpn : Hid (pos + 1 = lo s.data.toList (pos + 1)) := (lo_lf _ _ h10').symm
          have hpx : Hid (vals (pre ++ [x]) <+: phys s.data.toList) := by unfold Hid; rw [hvn.out]; exact pl_phys _ _ (by omega)
          obtain ⟨fn, tmps, assign, body, hy, hR⟩ := hY pre x wi hJi hlen
          dsimp only [encP] at hy
          rw [show x.1.1 = k from by rw [hx]] at hy
          have hlt' : Hid (pos < s.size) := hlt
          have hpos' : Hid (wr.iterPos W.heap.size = pos) := iterPos_of hit.out
          clear hx hlt hwi hJi hJk hit hbx htl h10 h10' ha hle hp hk hv hp1 hk1 hlen hbW cS
          gi_wp2_with (refine ⟨trivial, ?_⟩; gi_at_call 32; refine (callsIn_wide.2 (hT _).out).mono ?_; rintro e w' ⟨rfl, rfl⟩)
          refine hR.mono ?_
          rintro e W3 (⟨rfl, hJ3, hk3⟩ | ⟨rfl, hJx3⟩)
          · have hi3 : Hid (W3.heap[W.heap.size]? = some (.stringIter s (pos + 1))) := (hk3.2.2 _ _ _ hii.out).trans hii.out
            have hb3 : Hid (W3.heap[sb]? = some (.cells #[.string s] 9 (0, 0))) := hk3.2.1.trans hbi.out
            clear hk3 hR hy hT cI cX hii hbi hnx
            gi_wp2
            go_roundw
            case rel => exact ⟨pos + 1, k + 1, pos + 1, pre ++ [x], hlt'.out, hvn.out, hkn.out, hpn.out, by simp, by simp, hJ3, hi3, hb3⟩
            case measure => rw [hpos'.out, iterPos_of hi3.out]; have := hlt'.out; omega
          · clear hR hy hT cI cX hii hbi hnx
            gi_wp2
            refine bodyPost_ret (results_none rfl _ _ _) rfl ?_
            exact ⟨⟨_, rfl⟩, .inr ⟨_, hpx.out, hJx3⟩⟩
        · have hnx : ∀ ty, (Instr.next (.pointer (some ⟨W.heap.size, 0, none⟩)) true ty).run Tryz.prog wr = _ := fun ty => Lib.run_next_ascii_at wr _ s pos ty hit.out hlt ha
          have h10n : ¬ s.data.toList[pos]? = some 10 := by rw [get_at' s pos hlt]; intro e; injection e with e; exact h10 e
          have hr : (((s[pos]'hlt).toNat : Int) != 10) = true := by
            simp only [bne_iff_ne, ne_eq]
            intro e
            apply h10
            apply UInt8.toNat_inj.1
            show _ = 10
            omega
          generalize ((s[pos]'hlt).toNat : Int) = r at *
          obtain ⟨wi, hwi⟩ : ∃ wi, wr.iterAt W.heap.size s (pos + 1) = wi := ⟨_, rfl⟩
          rw [hwi] at hnx
          have hJi : J pre wi := by rw [← hwi]; exact abides_iter hJ hJk hit.out (Nat.le_refl _) _
          have hii : Hid (wi.heap[W.heap.size]? = some (.stringIter s (pos + 1))) := by rw [← hwi]; exact Lib.iterAt_heap _ _ _ _ _ hit.out
          have hbi : Hid (wi.heap[sb]? = some (.cells #[.string s] 9 (0, 0))) := by rw [← hwi]; exact (Lib.iterAt_other _ _ _ _ _ (by have := hsW.out; omega)).trans hbx.out
          have hE : Hid (pos + 1 ≤ s.size ∧ vals pre = pl s.data.toList (pos + 1) ∧ k = (pl s.data.toList (pos + 1)).length + 1 ∧ p = lo s.data.toList (pos + 1)) := ⟨hlt, by rw [pl_no _ _ h10n]; exact hv, by rw [pl_no _ _ h10n]; exact hk, by rw [lo_no _ _ h10n]; exact hp⟩
          have hpos' : Hid (wr.iterPos W.heap.size = pos) := iterPos_of hit.out
          clear hlt hwi hJk hit hbx h10 h10n ha hle hp hk hv hp1 hk1 hlen hbW cS hY
          gi_wp2
          go_roundw
          case rel => exact ⟨pos + 1, k, p, pre, hE.out.1, hE.out.2.1, hE.out.2.2.1, hE.out.2.2.2, rfl, rfl, hJi, hii, hbi⟩
          case measure => rw [hpos'.out, iterPos_of hii.out]; have := hE.out.1; omega
      · have hnx : ∀ ty, (Instr.next (.pointer (some ⟨W.heap.size, 0, none⟩)) true ty).run Tryz.prog wr = _ := fun ty => Lib.run_next_any_at wr _ s pos ty hit.out hlt
        have hd1 := (decode_high s pos hlt (by omega)).1
        obtain ⟨d1, d2, _⟩ := decode_run s pos hlt (by omega)
        obtain ⟨e1, e2⟩ := high_skip s pos hlt (by omega)
        have hr : (((Utf8.decode s pos).1 : Int) != 10) = true := by
          simp only [bne_iff_ne, ne_eq]
          omega
        generalize ((Utf8.decode s pos).1 : Int) = r at *
        obtain ⟨q, hq⟩ : ∃ q, pos + (Utf8.decode s pos).2 = q := ⟨_, rfl⟩
        rw [hq] at hnx d2 e1 e2
        have hqp : pos < q := by omega
        obtain ⟨wi, hwi⟩ : ∃ wi, wr.iterAt W.heap.size s q = wi := ⟨_, rfl⟩
        rw [hwi] at hnx
        have hJi : J pre wi := by rw [← hwi]; exact abides_iter hJ hJk hit.out (Nat.le_refl _) _
        have hii : Hid (wi.heap[W.heap.size]? = some (.stringIter s q)) := by rw [← hwi]; exact Lib.iterAt_heap _ _ _ _ _ hit.out
        have hbi : Hid (wi.heap[sb]? = some (.cells #[.string s] 9 (0, 0))) := by rw [← hwi]; exact (Lib.iterAt_other _ _ _ _ _ (by have := hsW.out; omega)).trans hbx.out
        have hE : Hid ((q ≤ s.size ∧ pos < q) ∧ vals pre = pl s.data.toList q ∧ k = (pl s.data.toList q).length + 1 ∧ p = lo s.data.toList q) := ⟨⟨d2, hqp⟩, by rw [e2]; exact hv, by rw [e2]; exact hk, by rw [e1]; exact hp⟩
        have hpos' : Hid (wr.iterPos W.heap.size = pos) := iterPos_of hit.out
        clear hlt hwi hJk hit hbx ha hle hp hk hv hp1 hk1 hlen hbW cS hY hd1 d1 d2 e1 e2 hq hqp
        gi_wp2
        go_roundw
        case rel => exact ⟨q, k, p, pre, hE.out.1.1, hE.out.2.1, hE.out.2.2.1, hE.out.2.2.2, rfl, rfl, hJi, hii, hbi⟩
        case measure => rw [hpos'.out, iterPos_of hii.out]; have := hE.out.1; omega
    · have hnx : ∀ ty, (Instr.next (.pointer (some ⟨W.heap.size, 0, none⟩)) true ty).run Tryz.prog wr = _ := fun ty => Lib.run_next_end_at wr _ s pos ty hit.out hlt
      have he : pos = s.size := by omega
      subst he
      rw [← hsl] at hv hk hp
      by_cases hpl : p < s.size
      · have htl : (s.data.toList.drop p).length ≤ 4194304 := by rw [List.length_drop]; omega
        obtain ⟨x, hx⟩ : ∃ x : Ln, x.1 = (k, s.data.toList.drop p) := ⟨⟨_, by simp only; omega, htl⟩, rfl⟩
        have hph : Hid (vals (pre ++ [x]) = phys s.data.toList) := by
          unfold Hid phys rst
          rw [if_pos (by rw [← hp, hsl]; exact hpl), vals_snoc, hv, hx, ← hk, ← hp]
        obtain ⟨fn, tmps, assign, body, hy, hR⟩ := hY pre x wr hJk hlen
        dsimp only [encP] at hy
        rw [show x.1.1 = k from by rw [hx], show S x.1.2 = s.extract p s.size from by rw [hx]; exact (S_eq _ _ (drop_l s p)).symm] at hy
        have hpl' : (p : Int) < (s.size : Int) := by omega
        clear hx hlt hJk hit hbx htl hle hp hk hv hp1 hk1 hlen hbW cS hpl
        gi_wp2
        refine hR.mono ?_
        rintro e W3 (⟨rfl, hJ3, _⟩ | ⟨rfl, hJx3⟩)
        · clear hR hy hnx
          gi_wp2
          go_end0
          exact ⟨⟨_, rfl⟩, .inl ⟨_, hph.out, hJ3⟩⟩
        · clear hR hy hnx
          gi_wp2
          go_end0
          exact ⟨⟨_, rfl⟩, .inr ⟨_, by rw [hph.out]; exact List.prefix_refl _, hJx3⟩⟩
      · have hph : Hid (vals pre = phys s.data.toList) := by
          unfold Hid phys rst
          rw [if_neg (by rw [← hp, hsl]; exact hpl), hv, List.append_nil]
        obtain rfl : p = s.size := by omega
        clear hlt hit hbx hle hp hk hv hp1 hk1 hlen hbW cS hpl hY p3 q1 p2 q0 hs hsl
        gi_wp2
        go_end0
        exact ⟨⟨_, rfl⟩, .inl ⟨_, hph.out, hJk⟩⟩
end Go.Proofs.YtoomoicjoockjaaGreatDoor
